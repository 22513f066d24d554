/-
  The document's digit changes nothing at all.
-/
import Derived.Test.YtpjaefcmaiimlaaGreatRefNums
import Derived.BigQuiet
import Derived.Deep.DeepCutAuto
import Derived.OwnWalk
import Derived.Test.YtpjaefcmaiimlaaGreatVars
import Derived.Test.YtpjaefcmaiimlaaGreatLongs
import Derived.Test.YtpjaefcmaiimlaaGreatGeoAll
set_option linter.unusedVariables false
set_option linter.unusedSimpArgs false
set_option linter.deprecated false
namespace Go.Proofs.YtpjaefcmaiimlaaGreat
open Go.RowKit

set_option maxHeartbeats 1000000 in
set_option maxRecDepth 100000 in
theorem digit_in' (g c n i : Nat) (x : Int) (hi : i < n) (w : World) (hcell : w.cell? ⟨g, i, none⟩ = some (.int .i64 x)) :
    Calls Tryz.prog 114 #[.slice (some ⟨g, 0, none⟩) n c, .int .i64 i] w fun e w' => e = .returned (.int .i64 x) ∧ w' = w := by
  have h1 : decide ((i : Int) < (n : Int)) = true := by simp; omega
  go_enter Tryz.func114, Tryz.ntmps114
  go_wp2
  go_ret
  exact ⟨rfl, rfl⟩
set_option maxHeartbeats 1000000 in
set_option maxRecDepth 100000 in
theorem digit_out' (ad : Option Addr) (c n i : Nat) (hi : n ≤ i) (w : World) :
    Calls Tryz.prog 114 #[.slice ad n c, .int .i64 i] w fun e w' => e = .returned (.int .i64 0) ∧ w' = w := by
  have h1 : decide ((i : Int) < (n : Int)) = false := by simp; omega
  go_enter Tryz.func114, Tryz.ntmps114
  go_wp2
  go_ret
  exact ⟨rfl, rfl⟩
theorem DigAt.drewN {W : World} {ad : Option Addr} {n cap : Nat} {f : Nat → Int} (h : DigAt W ad n cap f) (k : Nat) : DigAt (W.drewN k) ad n cap f := h.below (below_drewN' (Below.refl _ _) k)
theorem digit_same {W : World} {ad : Option Addr} {n c : Nat} {f : Nat → Int} (d1 : DigAt W ad n c f) (i k : Nat) :
    Calls Tryz.prog 114 #[.slice ad n c, .int .i64 i] (W.drewN k) fun e w' => e = .returned (.int .i64 (f i)) ∧ ∃ m, w' = W.drewN m := by
  refine Calls.quiet_of_same ?_
  have d2 := d1.drewN k
  rcases Nat.lt_or_ge i n with h | h
  · rcases d2.mem with h0 | ⟨g, rfl, a1, a2, a3, a4⟩
    · omega
    · exact digit_in' g c n i (f i) h _ (a4.out i h)
  · rw [d2.hi i h]; exact digit_out' ad c n i h _
end Go.Proofs.YtpjaefcmaiimlaaGreat

/-
  Contract of the document's side: Times.
-/
namespace Go.Proofs.YtpjaefcmaiimlaaGreat
open Go.RowKit

/-- the frame of Times -/
structure TimesW (w : World) (m m' : Bool) (s s' : Value) (W : World) : Prop where
  sz : w.heap.size + 3 ≤ W.heap.size
  hb : Below w.heap.size w W
  a0 : W.cell? ⟨w.heap.size, 0, none⟩ = some (.bool m)
  a1 : W.cell? ⟨w.heap.size, 1, none⟩ = some s
  b0 : W.cell? ⟨w.heap.size + 1, 0, none⟩ = some (.bool m')
  b1 : W.cell? ⟨w.heap.size + 1, 1, none⟩ = some s'
  f0 : W.frozen? ⟨w.heap.size + 2, 0, none⟩ = false
  f1 : W.frozen? ⟨w.heap.size + 2, 1, none⟩ = false
  z0 : W.cell? ⟨w.heap.size + 2, 0, none⟩ = some (.bool false)
  z1 : W.cell? ⟨w.heap.size + 2, 1, none⟩ = some (.slice none 0 0)
theorem getD_set (ds : List Int) (j i : Nat) (x : Int) (hj : j < ds.length) : (ds.set j x).getD i 0 = if i = j then x else ds.getD i 0 := by
  rw [List.getD_eq_getElem?_getD, List.getD_eq_getElem?_getD, List.getElem?_set]
  by_cases h : j = i
  · subst h; simp [hj]
  · rw [if_neg h, if_neg (fun e => h e.symm)]
theorem dval_put {f h : Nat → Int} (j : Nat) (x : Int) (hj : h j = x) (he : ∀ i, i ≠ j → h i = f i) : ∀ n, dval h n = dval f n + (if j < n then (x - f j) * 65536 ^ j else 0)
  | 0 => by simp [dval]
  | n + 1 => by
    simp only [dval]
    rw [dval_put j x hj he n]
    by_cases h1 : j < n
    · rw [if_pos h1, if_pos (by omega), he n (by omega)]; omega
    · by_cases h2 : j = n
      · subst h2
        rw [if_neg h1, if_pos (by omega), hj, Int.sub_mul]; omega
      · rw [if_neg h1, if_neg (by omega), he n (by omega)]; omega
theorem lval_set (ds : List Int) (j : Nat) (x : Int) (hj : j < ds.length) : lval (ds.set j x) = lval ds + (x - ds.getD j 0) * 65536 ^ j := by
  unfold lval
  rw [List.length_set, dval_put (f := fun i => ds.getD i 0) j x (by rw [getD_set _ _ _ _ hj, if_pos rfl]) (fun i hi => by rw [getD_set _ _ _ _ hj, if_neg hi]), if_pos hj]
theorem bd_set {ds : List Int} {j : Nat} {x : Int} (h : Bd ds) (hj : j < ds.length) (h0 : 0 ≤ x) (h1 : x < 65536) : Bd (ds.set j x) := by
  intro i
  rw [getD_set _ _ _ _ hj]
  have := h i
  split <;> omega
theorem Rw.put {B : Nat} {w W : World} {g n : Nat} {ds : List Int} (h : Rw B w (.slice (some ⟨g, 0, none⟩) n n) ds W) (hn : ds.length = n) (j : Nat) (x : Int) : Rw B w (.slice (some ⟨g, 0, none⟩) n n) (ds.set j x) (W.setCell ⟨g, j, none⟩ (.int .i64 x)) := by
  have ho := h.own
  rw [hn] at ho
  obtain ⟨h1, h2⟩ := ho.stored j (.int .i64 x)
  have hb := (ho.lt g rfl)
  refine ⟨?_, h.hb.setCell hb.1 _, by simpa using h.sz⟩
  rw [List.length_set, hn, List.map_set]
  exact h1
theorem Rw.at {B : Nat} {w W : World} {g n : Nat} {ds : List Int} (h : Rw B w (.slice (some ⟨g, 0, none⟩) n n) ds W) (hn : ds.length = n) : (∀ j, j < n → W.cell? ⟨g, j, none⟩ = some (.int .i64 (ds.getD j 0)) ∧ W.frozen? ⟨g, j, none⟩ = false) ∧ B ≤ g ∧ g < W.heap.size := by
  have ho := h.own
  rw [hn] at ho
  refine ⟨fun j hj => ⟨?_, ho.frozenAt j⟩, ho.lt g rfl⟩
  rw [ho.cellAt j (by omega), List.getElem?_map, List.getD_eq_getElem?_getD, List.getElem?_eq_getElem (by omega)]
  rfl

theorem getD_rep (n j : Nat) : (List.replicate n (0 : Int)).getD j 0 = 0 := by
  rw [List.getD_eq_getElem?_getD, List.getElem?_replicate]
  split <;> rfl
theorem bd_rep (n : Nat) : Bd (List.replicate n 0) := fun j => by rw [getD_rep]; omega
theorem lval_rep (n : Nat) : lval (List.replicate n 0) = 0 := by
  unfold lval
  rw [dval_ext (h := fun _ => 0) _ (fun j _ => getD_rep n j)]
  exact dval_ge (n := 0) (f := fun _ => 0) (fun _ _ => rfl) (Nat.zero_le _)
theorem wrapN (t : Nat) (h : t ≤ 201) : wrap64 (t : Int) = t := by unfold wrap64; omega
theorem wrapK (t : Nat) (h : t ≤ 201) : IntKind.i64.wrap (t : Int) = t := IntWalk.i64_in _ (by omega)
theorem wrapP (p : Int) (h0 : 0 ≤ p) (h1 : p ≤ 4294836225) : IntKind.i64.wrap p = p := IntWalk.i64_in _ (by omega)
theorem wrapQ (p : Int) (h0 : 0 ≤ p) (h1 : p ≤ 4294836225) : wrap64 p = p := by unfold wrap64; omega
theorem xb (d p c : Int) (h0 : 0 ≤ d) (h1 : d < 65536) (h2 : 0 ≤ p) (h3 : p ≤ 4294836225) (h4 : 0 ≤ c) (h5 : c < 65536) : 0 ≤ d + p + c ∧ d + p + c < 4294967296 := by omega
theorem sg_mul (m m' : Bool) (F H : Int) : sg m * F * (sg m' * H) = sg (m != m') * (F * H) := by
  cases m <;> cases m' <;> simp [sg, Int.mul_neg, Int.neg_mul]
theorem measK (kk : Nat) (h : kk ≤ 101) : 102 - ((kk : Int) + 1).toNat < 102 - (kk : Int).toNat := by omega
theorem qb (x : Int) (h0 : 0 ≤ x) (h1 : x < 4294967296) : 0 ≤ x / 65536 ∧ x / 65536 < 65536 := by omega
theorem remK (x : Int) (h0 : 0 ≤ x) (_h1 : x < 4294967296) : x.tmod 65536 = x % 65536 := Int.tmod_eq_emod_of_nonneg h0
theorem quoK (x : Int) (h0 : 0 ≤ x) (_h1 : x < 4294967296) : x.tdiv 65536 = x / 65536 := Int.tdiv_eq_ediv_of_nonneg h0
theorem times_step {ds : List Int} {cy x dj p : Int} {i k kk t : Nat} {f h : Nat → Int} (hq : (∀ j, i + k + 1 ≤ j → ds.getD j 0 = 0) ∧ (kk ≤ k → ds.getD (i + k) 0 = 0) ∧ lval ds + cy * 65536 ^ (i + kk) = dval f i * dval h k + f i * dval h kk * 65536 ^ i)
    (ht : t = i + kk) (htl : t < ds.length) (hdj : dj = ds.getD (i + kk) 0) (hp : p = f i * h kk) (hx : x = dj + p + cy) (hkk : kk ≤ k) :
    (∀ j, i + k + 1 ≤ j → (ds.set t (x % 65536)).getD j 0 = 0) ∧ (kk + 1 ≤ k → (ds.set t (x % 65536)).getD (i + k) 0 = 0) ∧ lval (ds.set t (x % 65536)) + x / 65536 * 65536 ^ (i + (kk + 1)) = dval f i * dval h k + f i * dval h (kk + 1) * 65536 ^ i := by
  subst ht
  refine ⟨fun j hj => ?_, fun hk1 => ?_, ?_⟩
  · rw [getD_set _ _ _ _ htl, if_neg (by omega)]; exact hq.1 j hj
  · rw [getD_set _ _ _ _ htl, if_neg (by omega)]; exact hq.2.1 (by omega)
  · rw [lval_set _ _ _ htl, ← hdj, ← Nat.add_assoc, Int.pow_succ]
    simp only [dval]
    have h3 := hq.2.2
    have e1 : x / 65536 * (65536 ^ (i + kk) * 65536) = x / 65536 * 65536 * 65536 ^ (i + kk) := by
      rw [Int.mul_comm (65536 ^ (i + kk)), Int.mul_assoc]
    have e2 : (x % 65536 - dj) * 65536 ^ (i + kk) + x / 65536 * 65536 * 65536 ^ (i + kk) = (p + cy) * 65536 ^ (i + kk) := by
      rw [← Int.add_mul]; congr 1; omega
    have e3 : f i * (dval h kk + h kk * 65536 ^ kk) * 65536 ^ i = f i * dval h kk * 65536 ^ i + p * 65536 ^ (i + kk) := by
      rw [Int.mul_add, Int.add_mul, hp, Int.pow_add, Int.mul_comm (65536 ^ i)]
      congr 1
      simp only [Int.mul_assoc]
    rw [e1, e3]
    rw [Int.add_mul] at e2
    omega
/-- ahead of row i -/
def TimesO (B : Nat) (W2 : World) (N g n k : Nat) (f h : Nat → Int) (iv : Value) (W : World) : Prop :=
  ∃ (ds : List Int) (i : Nat), iv = .int .i64 i ∧ i ≤ n ∧ Rw B W2 (.slice (some ⟨g, 0, none⟩) N N) ds W ∧ ds.length = N ∧ Bd ds ∧ Hid ((∀ j, i + k ≤ j → ds.getD j 0 = 0) ∧ lval ds = dval f i * dval h k)
/-- in row i, ahead of place kk -/
def TimesI (B : Nat) (W2 : World) (N g k : Nat) (f h : Nat → Int) (i : Nat) (cv kv : Value) (W : World) : Prop :=
  ∃ (ds : List Int) (cy : Int) (kk : Nat), cv = .int .i64 cy ∧ kv = .int .i64 kk ∧ (kk ≤ k ∨ (kk = k + 1 ∧ cy = 0)) ∧ 0 ≤ cy ∧ cy < 65536 ∧ Rw B W2 (.slice (some ⟨g, 0, none⟩) N N) ds W ∧ ds.length = N ∧ Bd ds ∧
    Hid ((∀ j, i + k + 1 ≤ j → ds.getD j 0 = 0) ∧ (kk ≤ k → ds.getD (i + k) 0 = 0) ∧ lval ds + cy * 65536 ^ (i + kk) = dval f i * dval h k + f i * dval h kk * 65536 ^ i)

set_option maxHeartbeats 4000000 in
set_option maxRecDepth 100000 in
theorem times_raw (m m' : Bool) (ad ad' : Option Addr) (n k c c' : Nat) (f h : Nat → Int) (hn : n ≤ 100) (hk : k ≤ 100) (w : World) (d1 : DigAt w ad n c f) (d2 : DigAt w ad' k c' h) :
    Calls Tryz.prog 95 #[.agg #[.bool m, .slice ad n c], .agg #[.bool m', .slice ad' k c']] w fun e w' => ∃ u, e = .returned u ∧ NumIs u (sg m * dval f n * (sg m' * dval h k)) w' ∧ Below w.heap.size w w' := by
  obtain ⟨i0, hi, hz0, hz1, hz2⟩ := info_parts info_int
  have D1 := Lib.hid d1
  have D2 := Lib.hid d2
  clear d1 d2
  obtain ⟨N, hN⟩ : ∃ N, n + k < N ∧ N ≤ n + k + 1 := ⟨n + k + 1, by omega, by omega⟩
  go_enter Tryz.func95, Tryz.ntmps95
  go_upto_region 1 with (fail)
  refine wp_abs (fun W => TimesW w m m' (.slice ad n c) (.slice ad' k c') W) ?_ ?_
  · constructor <;> first | (simp [go_sem]; done) | repeat (first | (with_reducible exact Below.refl _ _) | (with_reducible refine bl_alloc ?_ _) | (with_reducible refine Below.drew ?_) | (with_reducible refine below_drewN' ?_ _) | ((with_reducible refine bl_set ?_ ?_ _); (rotate_left; (dsimp only; omega))))
  intro W2 hW
  have c1 := hW.a1
  have c2 := hW.b1
  have HW := Lib.hid hW
  clear hW
  go_wp2_with (first
    | (refine wpList_make_full _ rfl _ _ 43 rfl W2.heap.size 3 i0 (.int .i64 0) 1 Tryz.underlying43 hi hz0 hz1 .i64 .i64 _ _ N rfl rfl (by omega) (by omega) (by rw [hz2]; omega) (by unfold maxLen; omega) (Nat.le_refl _) ?_)
    | go_in)
  intro W3 hown hgrow
  have R0 : Hid (Rw W2.heap.size W2 (.slice (some ⟨W2.heap.size, 0, none⟩) N N) (List.replicate N 0) W3) := by
    refine ⟨?_, (Below.refl _ _).grown hgrow (Nat.le_refl _) (fun k e => by cases e), Nat.le_trans (Nat.le_refl _) hgrow.size⟩
    rw [toList_madeCells_one] at hown
    simpa using hown
  clear hown hgrow c1 c2
  have hNN : n + k < N ∧ N ≤ n + k + 1 := by omega
  have HN := Lib.hid hNN
  have hNb : N ≤ 201 := by omega
  clear hNN hN
  generalize hg : W2.heap.size = g at *
  have hgw : w.heap.size + 3 ≤ g := by rw [← hg]; exact HW.out.sz
  have HG := Lib.hid hg
  clear hg
  go_wp2
  go_loopw [6] (fun iv W => TimesO g W2 N g n k f h iv W) (fun iv _ => 102 - (intOf iv).toNat)
  case atStart => exact ⟨_, 0, rfl, by omega, R0.out, by simp, bd_rep _, ⟨fun j _ => getD_rep _ j, by rw [lval_rep]; simp [dval]⟩⟩
  case round =>
    obtain ⟨ds, i, rfl, hin, hR, hlen, hB, HQ⟩ := hrel
    have HR := Lib.hid hR
    have HB := Lib.hid hB
    have hRs := hR.sz
    clear hR hB
    have c1 : wr.cell? ⟨w.heap.size, 1, none⟩ = some (.slice ad n c) := (HR.out.hb.cell (by dsimp only; omega)).trans HW.out.a1
    by_cases hgo : i < n
    · have b1 : decide ((i : Int) < (n : Int)) = true := by simp; omega
      go_upto_region 7 with (fail)
      go_loopw [7, 8] (fun cv kv W => TimesI g W2 N g k f h i cv kv W) (fun _ kv _ => 102 - (intOf kv).toNat)
      case atStart => exact ⟨ds, 0, 0, rfl, rfl, .inl (by omega), by omega, by omega, HR.out, hlen, HB.out, ⟨fun j hj => HQ.out.1 j (by omega), fun _ => HQ.out.1 _ (by omega), by rw [HQ.out.2]; simp [dval]⟩⟩
      case round =>
        clear c1 HR HB HQ hlen hRs
        obtain ⟨ds, cy, kk, rfl, rfl, hkk, hc0, hc1, hR, hlen, hB, HQ⟩ := hrel
        have HR := Lib.hid hR
        have HB := Lib.hid hB
        have hRs := hR.sz
        clear hR hB
        have c2 : wr.cell? ⟨w.heap.size + 1, 1, none⟩ = some (.slice ad' k c') := (HR.out.hb.cell (by dsimp only; omega)).trans HW.out.b1
        by_cases hgo2 : kk < k ∨ 0 < cy
        · have hkk1 : kk ≤ k := by clear HR HB HQ c2 hRs; omega
          have HGO := Lib.hid hgo2
          clear hkk hgo2
          go_upto_region 7 with (fail)
          go_cut [34] (fun bv W => bv = .bool true ∧ wr = W)
          case first =>
            rcases (show kk < k ∨ (¬ kk < k ∧ 0 < cy) by have := HGO.out; omega) with h1 | ⟨h1, h2⟩
            · have b2 : decide ((kk : Int) < (k : Int)) = true := by simp; omega
              go_wp2
              go_meet
              case rel => exact ⟨rfl, rfl⟩
            · have b2 : decide ((kk : Int) < (k : Int)) = false := by simp; omega
              have b3 : decide (0 < cy) = true := by simp; omega
              go_wp2
              go_meet
              case rel => exact ⟨rfl, rfl⟩
          case rest =>
            obtain ⟨rfl, rfl⟩ := hcut
            have c1 : wr.cell? ⟨w.heap.size, 1, none⟩ = some (.slice ad n c) := (HR.out.hb.cell (by dsimp only; omega)).trans HW.out.a1
            have hDa : Hid (DigAt wr ad n c f) := D1.out.below (bl_trans HW.out.hb (by rw [HG.out]; exact HR.out.hb))
            have hDb : Hid (DigAt wr ad' k c' h) := D2.out.below (bl_trans HW.out.hb (by rw [HG.out]; exact HR.out.hb))
            obtain ⟨hat, hgB, hgl⟩ := HR.out.at hlen
            have c3 := (hat (i + kk) (by have := HN.out; omega)).1
            have hfr := (hat (i + kk) (by have := HN.out; omega)).2
            have HAT := Lib.hid hat
            clear hat
            rcases hDa.out.mem with h0 | ⟨ga, rfl, y1, y2, y3, y4⟩
            · omega
            have c4 : wr.cell? ⟨ga, i, none⟩ = some (.int .i64 (f i)) := y4.out i hgo
            clear y4
            have hfb := hDa.out.bd i
            have hhb := hDb.out.bd kk
            have hdb := HB.out (i + kk)
            obtain ⟨dj, hdj⟩ : ∃ dj, dj = ds.getD (i + kk) 0 := ⟨_, rfl⟩
            rw [← hdj] at c3 hdb
            obtain ⟨p, hp, hp0, hp1⟩ : ∃ p, p = f i * h kk ∧ 0 ≤ p ∧ p ≤ 4294836225 := ⟨_, rfl, Int.mul_nonneg hfb.1 hhb.1, Int.le_trans (Int.mul_le_mul (show f i ≤ 65535 by omega) (show h kk ≤ 65535 by omega) hhb.1 (by omega)) (by omega)⟩
            have hwp : IntKind.i64.wrap (f i * h kk) = p := by rw [← hp]; exact wrapP p hp0 hp1
            have hwp' : wrap64 (f i * h kk) = p := by rw [← hp]; exact wrapQ p hp0 hp1
            obtain ⟨t, ht⟩ : ∃ t, t = i + kk := ⟨_, rfl⟩
            have hti : (i : Int) + (kk : Int) = (t : Int) := by omega
            have htl : t < N := by have := HN.out; omega
            have htl' : (t : Int) < (N : Int) := by omega
            have htb : t ≤ 201 := by omega
            have htw : IntKind.i64.wrap (t : Int) = (t : Int) := wrapK t htb
            have htw' : wrap64 (t : Int) = (t : Int) := wrapN t htb
            have hkb : kk ≤ 101 := by omega
            rw [← ht] at c3 hfr
            have HT := Lib.hid ht
            have HDJ := Lib.hid hdj
            have HPP := Lib.hid hp
            clear ht hdj hp
            go_upto_region 9 with (fail)
            go_cut [9] (fun xv W => xv = .int .i64 (dj + p + cy) ∧ Below wr.heap.size wr W)
            case first =>
              go_quiet ((go_at_call 114; exact digit_same hDb.out kk _))
              go_wp2
              go_meet
              case rel => exact ⟨by first | rfl | simp [hwp], below_drewN' (Below.refl _ _) _⟩
            case rest =>
              obtain ⟨rfl, hb⟩ := hcut
              have RW : Hid (Rw g W2 (.slice (some ⟨g, 0, none⟩) N N) ds wc) := HR.out.kept hb
              obtain ⟨x, hx, hx0, hx1⟩ : ∃ x, x = dj + p + cy ∧ 0 ≤ x ∧ x < 4294967296 := ⟨_, rfl, (xb _ _ _ hdb.1 hdb.2 hp0 hp1 hc0 hc1).1, (xb _ _ _ hdb.1 hdb.2 hp0 hp1 hc0 hc1).2⟩
              have HX := Lib.hid hx
              rw [← hx]
              have f3 : wc.frozen? ⟨g, t, none⟩ = false := (hb.frozen (by exact hgl)).trans hfr
              have c5 : wc.cell? ⟨g, t, none⟩ = some (.int .i64 dj) := (hb.cell (by exact hgl)).trans c3
              have HCY : Hid (cy < 65536) := hc1
              have HIH : Hid (kk = k → cy = x) := by
                intro e
                have z1 : dj = 0 := by rw [HDJ.out, e]; exact HQ.out.2.1 (by omega)
                have z2 : p = 0 := by rw [HPP.out, e, hDb.out.hi k (Nat.le_refl _)]; simp
                have := HX.out
                omega
              obtain ⟨y, hy⟩ : ∃ y, y = x % 65536 := ⟨_, rfl⟩
              obtain ⟨q, hq⟩ : ∃ q, q = x / 65536 := ⟨_, rfl⟩
              have er : x.tmod 65536 = y := by rw [hy]; exact remK x hx0 hx1
              have eq : x.tdiv 65536 = q := by rw [hq]; exact quoK x hx0 hx1
              have hqb : 0 ≤ q ∧ q < 65536 := by rw [hq]; exact qb x hx0 hx1
              have HBN : Hid (ds.length = N ∧ kk ≤ k ∧ k ≤ 100 ∧ t < N ∧ 0 ≤ x ∧ x < 4294967296 ∧ y = x % 65536 ∧ q = x / 65536 ∧ kk ≤ 101) := ⟨hlen, hkk1, hk, htl, hx0, hx1, hy, hq, hkb⟩
              clear hx c1 c2 c3 c4 hDa hDb hfr hb hwp hwp' htw hp0 hp1 hfb hhb hdb HGO y1 y2 y3 hlen hkk1 hn hk hx0 hx1 hy hq hgB hgl hRs hin hgo hNb htb hgw hc0 hc1 b1
              go_wp2
              go_roundw
              case rel =>
                obtain ⟨hlen, hkk1, hk, htl, hx0, hx1, hy, hq, hkb'⟩ := HBN.out
                have hcy' := hqb
                refine ⟨ds.set t y, q, kk + 1, rfl, rfl, ?_, hcy'.1, hcy'.2, RW.out.put hlen t y, by rw [List.length_set]; exact hlen, bd_set HB.out (by rw [hlen]; exact htl) (by omega) (by omega), ?_⟩
                · rcases Nat.lt_or_ge kk k with h1 | h1
                  · exact .inl h1
                  · have := HIH.out (Nat.le_antisymm hkk1 h1)
                    exact .inr ⟨by omega, by have := HCY.out; omega⟩
                · rw [hy, hq]
                  exact times_step HQ.out HT.out (by rw [hlen]; exact htl) HDJ.out HPP.out HX.out hkk1
              case measure =>
                obtain ⟨hlen, hkk1, hk, htl, hx0, hx1, hy, hq, hkb'⟩ := HBN.out
                simp only [intOf]
                exact measK kk hkb
        · have ec : cy = 0 := by clear HR HB HQ c2 hRs; omega
          have hkk2 : k ≤ kk := by clear HR HB HQ c2 hRs; omega
          clear hkk hgo2
          subst ec
          have b2 : decide ((kk : Int) < (k : Int)) = false := by simp; omega
          go_wp2
          go_roundw
          case rel =>
            refine ⟨ds, i + 1, by first | rfl | simp, by omega, HR.out, hlen, HB.out, fun j hj => HQ.out.1 j (by omega), ?_⟩
            have h3 := HQ.out.2.2
            rw [dval_ge D2.out.hi hkk2] at h3
            simp only [dval]
            rw [Int.add_mul]
            have e : f i * 65536 ^ i * dval h k = f i * dval h k * 65536 ^ i := by rw [Int.mul_assoc, Int.mul_comm (65536 ^ i), Int.mul_assoc]
            omega
          case measure => simp [intOf] <;> omega
    · have ei : i = n := by omega
      have b1 : decide ((i : Int) < (n : Int)) = false := by simp; omega
      obtain ⟨mm, hmm⟩ : ∃ mm, mm = (m != m') := ⟨_, rfl⟩
      have hM : wr.cell? ⟨w.heap.size, 0, none⟩ = some (.bool m) := (HR.out.hb.cell (by dsimp only; omega)).trans HW.out.a0
      have hM' : wr.cell? ⟨w.heap.size + 1, 0, none⟩ = some (.bool m') := (HR.out.hb.cell (by dsimp only; omega)).trans HW.out.b0
      have hbW : Hid (Below w.heap.size w wr ∧ wr.frozen? ⟨w.heap.size + 2, 0, none⟩ = false ∧ wr.frozen? ⟨w.heap.size + 2, 1, none⟩ = false ∧ wr.cell? ⟨w.heap.size + 2, 0, none⟩ = some (.bool false) ∧ wr.cell? ⟨w.heap.size + 2, 1, none⟩ = some (.slice none 0 0)) :=
        ⟨bl_trans HW.out.hb (by rw [HG.out]; exact HR.out.hb), (HR.out.hb.frozen (by dsimp only; omega)).trans HW.out.f0, (HR.out.hb.frozen (by dsimp only; omega)).trans HW.out.f1, (HR.out.hb.cell (by dsimp only; omega)).trans HW.out.z0, (HR.out.hb.cell (by dsimp only; omega)).trans HW.out.z1⟩
      have hdone : Hid (sg m * dval f n * (sg m' * dval h k) = sg (m != m') * lval ds) := by
        unfold Hid
        rw [HQ.out.2, ei]
        exact sg_mul m m' _ _
      have HM := Lib.hid hmm
      have hTR := Lib.hid (trim_row (m != m') HR.out HB.out)
      rw [← hmm] at hTR hdone
      clear hmm
      cases m <;> cases m'
      all_goals
        have em := HM.out
        simp only [bne_self_eq_false, Bool.true_bne, Bool.false_bne, Bool.not_false] at em
        subst em
        go_wp2_with fail
        refine hTR.out.mono ?_
        rintro e w3 ⟨u, rfl, hN3, hb3⟩
        obtain ⟨m3, ad3, n3, cap3, f3, rfl, hD3, hm3, hz3⟩ := hN3
        have HD := Lib.hid hD3
        clear hD3
        have f0 : w3.frozen? ⟨w.heap.size + 1 + 1, 0, none⟩ = false := (hb3.frozen (by dsimp only; omega)).trans hbW.out.2.1
        have f1 : w3.frozen? ⟨w.heap.size + 1 + 1, 1, none⟩ = false := (hb3.frozen (by dsimp only; omega)).trans hbW.out.2.2.1
        have z0 : w3.cell? ⟨w.heap.size + 1 + 1, 0, none⟩ = some (.bool false) := (hb3.cell (by dsimp only; omega)).trans hbW.out.2.2.2.1
        have z1 : w3.cell? ⟨w.heap.size + 1 + 1, 1, none⟩ = some (.slice none 0 0) := (hb3.cell (by dsimp only; omega)).trans hbW.out.2.2.2.2
        go_wp2
        refine bodyPost_ret (v := .agg #[.bool m3, .slice ad3 n3 cap3]) (by simp [results, Tryz.results95, go_sem, z0, z1]) rfl ⟨_, rfl, ⟨m3, ad3, n3, cap3, f3, rfl, HD.out.res z0 _ _, hm3, by rw [hdone.out]; exact hz3⟩, ?_⟩
        have hb5 : Below w.heap.size w w3 := bl_trans hbW.out.1 hb3
        exact bl_set (bl_set hb5 (by dsimp only; omega) _) (by dsimp only; omega) _

theorem times_num (v u : Value) (z y : Int) (w : World) (h1 : NumIs v z w) (h2 : NumIs u y w) (b1 : -BIG < z ∧ z < BIG) (b2 : -BIG < y ∧ y < BIG) :
    Calls Tryz.prog 95 #[v, u] w fun e w' => ∃ x, e = .returned x ∧ NumIs x (z * y) w' ∧ Below w.heap.size w w' := by
  obtain ⟨m, ad, n, c, f, rfl, d1, -, rfl⟩ := h1
  obtain ⟨m', ad', k, c', h, rfl, d2, -, rfl⟩ := h2
  exact times_raw m m' ad ad' n k c c' f h (len_of d1 m b1.1 b1.2) (len_of d2 m' b2.1 b2.2) w d1 d2
end Go.Proofs.YtpjaefcmaiimlaaGreat

/-
  Variables in memory: Wides and the document's numbers.
-/
namespace Go.Proofs.YtpjaefcmaiimlaaGreat
open Go.RowKit

/-- a Num as it lies in memory, and its number -/
structure Nv where
  m : Bool
  ad : Option Addr
  n : Nat
  c : Nat
  z : Int
structure NVar (W : World) (g : Nat) (x : Nv) : Prop where
  c0 : W.cell? ⟨g, 0, none⟩ = some (.bool x.m)
  c1 : W.cell? ⟨g, 1, none⟩ = some (.slice x.ad x.n x.c)
  hN : NumIs (.agg #[.bool x.m, .slice x.ad x.n x.c]) x.z W
theorem NVar.lt {W : World} {g : Nat} {x : Nv} (h : NVar W g x) : g < W.heap.size := cell_lt h.c0
theorem NVar.below {W W' : World} {g : Nat} {x : Nv} (h : NVar W g x) (hb : Below W.heap.size W W') : NVar W' g x :=
  ⟨(hb.cell (p := ⟨g, _, none⟩) h.lt).trans h.c0, (hb.cell (p := ⟨g, _, none⟩) h.lt).trans h.c1, h.hN.below hb⟩
/-- the Wides and the numbers of these blocks, and nothing that was there has changed -/
structure EnvN (w : World) (l : List (Nat × Wd)) (k : List (Nat × Nv)) (W : World) : Prop where
  e : Env w l W
  v : ∀ p ∈ k, NVar W p.1 p.2
theorem EnvN.below {w : World} {l : List (Nat × Wd)} {k : List (Nat × Nv)} {W W' : World} (h : EnvN w l k W) (hb : Below W.heap.size W W') : EnvN w l k W' :=
  ⟨h.e.below hb, fun p hp => (h.v p hp).below hb⟩
theorem EnvN.new {w : World} {l : List (Nat × Wd)} {k : List (Nat × Nv)} {W : World} (h : EnvN w l k W) (g : Nat) (hg : g = W.heap.size) (m : Bool) (ad : Option Addr) (n c : Nat) (z : Int) (hN : NumIs (.agg #[.bool m, .slice ad n c]) z W) (t : TypeId) :
    EnvN w l ((g, ⟨m, ad, n, c, z⟩) :: k) (W.alloc (.cells #[.bool m, .slice ad n c] t)) := by
  subst hg
  refine ⟨h.e.below (bl_one _ _), fun p hp => ?_⟩
  rcases List.mem_cons.1 hp with rfl | hp
  · exact ⟨by simp [go_sem], by simp [go_sem], hN.below (bl_one _ _)⟩
  · exact (h.v p hp).below (bl_one _ _)
theorem EnvN.num {w : World} {l : List (Nat × Wd)} {k : List (Nat × Nv)} {W : World} (h : EnvN w l k W) {g : Nat} {m : Bool} {ad : Option Addr} {n c : Nat} {z : Int} (hp : (g, (⟨m, ad, n, c, z⟩ : Nv)) ∈ k) :
    W.cell? ⟨g, 0, none⟩ = some (.bool m) ∧ W.cell? ⟨g, 1, none⟩ = some (.slice ad n c) ∧ Hid (NumIs (.agg #[.bool m, .slice ad n c]) z W) :=
  ⟨(h.v _ hp).c0, (h.v _ hp).c1, (h.v _ hp).hN⟩
theorem EnvN.store {w : World} {l : List (Nat × Wd)} {k : List (Nat × Nv)} {W : World} (h : EnvN w l k W) {b : Nat} {x : Bool} {s : Value} (hc0 : W.cell? ⟨b, 0, none⟩ = some (.bool x)) (hc1 : W.cell? ⟨b, 1, none⟩ = some s) (hw : w.heap.size ≤ b) (hl : ∀ p ∈ l, p.1 ≠ b) (hk : ∀ p ∈ k, p.1 ≠ b)
    (m : Bool) (ad : Option Addr) (n c : Nat) (z : Int) (hN : NumIs (.agg #[.bool m, .slice ad n c]) z W) :
    EnvN w l ((b, ⟨m, ad, n, c, z⟩) :: k) ((W.setCell ⟨b, 0, none⟩ (.bool m)).setCell ⟨b, 1, none⟩ (.slice ad n c)) := by
  have num : ∀ {v : Value} {y : Int}, NumIs v y W → NumIs v y ((W.setCell ⟨b, 0, none⟩ (.bool m)).setCell ⟨b, 1, none⟩ (.slice ad n c)) := by
    rintro v y ⟨m', ad', n', c', f', e, hd, hm, hz⟩
    exact ⟨m', ad', n', c', f', e, hd.res hc0 _ _, hm, hz⟩
  refine ⟨⟨fun p hp => ?_, ?_⟩, fun p hp => ?_⟩
  · have h5 := h.e.at5 p hp
    have hne := hl p hp
    constructor
    · exact ((World.cell?_setCell_far _ _ _ _ (Ne.symm hne)).trans (World.cell?_setCell_far _ _ _ _ (Ne.symm hne))).trans h5.c0
    · exact ((World.cell?_setCell_far _ _ _ _ (Ne.symm hne)).trans (World.cell?_setCell_far _ _ _ _ (Ne.symm hne))).trans h5.c1
    · exact ((World.cell?_setCell_far _ _ _ _ (Ne.symm hne)).trans (World.cell?_setCell_far _ _ _ _ (Ne.symm hne))).trans h5.c2
    · exact ((World.cell?_setCell_far _ _ _ _ (Ne.symm hne)).trans (World.cell?_setCell_far _ _ _ _ (Ne.symm hne))).trans h5.c3
    · exact ((World.cell?_setCell_far _ _ _ _ (Ne.symm hne)).trans (World.cell?_setCell_far _ _ _ _ (Ne.symm hne))).trans h5.c4
  · exact bl_set (bl_set h.e.hb hw _) hw _
  · rcases List.mem_cons.1 hp with rfl | hp
    · refine ⟨?_, ?_, num hN⟩
      · exact (World.cell?_setCell_other _ _ _ _ (by intro e; injection e with e1 e2; omega)).trans (World.cell?_setCell_same _ _ _ hc0)
      · exact World.cell?_setCell_same _ _ _ ((World.cell?_setCell_other _ _ _ _ (by intro e; injection e with e1 e2; omega)).trans hc1)
    · have hv := h.v p hp
      have hne := hk p hp
      exact ⟨((World.cell?_setCell_far _ _ _ _ (Ne.symm hne)).trans (World.cell?_setCell_far _ _ _ _ (Ne.symm hne))).trans hv.c0, ((World.cell?_setCell_far _ _ _ _ (Ne.symm hne)).trans (World.cell?_setCell_far _ _ _ _ (Ne.symm hne))).trans hv.c1, num hv.hN⟩
/-- a new number's variable that holds nothing yet, from block B on -/
structure VarN (B : Nat) (W : World) (g : Nat) : Prop where
  ge : B ≤ g
  c0 : W.cell? ⟨g, 0, none⟩ = some (.bool false)
  c1 : W.cell? ⟨g, 1, none⟩ = some (.slice none 0 0)
  f0 : W.frozen? ⟨g, 0, none⟩ = false
  f1 : W.frozen? ⟨g, 1, none⟩ = false
theorem VarN.below {B : Nat} {W W' : World} {g : Nat} (h : VarN B W g) (hb : Below W.heap.size W W') : VarN B W' g :=
  have hl := cell_lt h.c0
  ⟨h.ge, (hb.cell (p := ⟨g, _, none⟩) hl).trans h.c0, (hb.cell (p := ⟨g, _, none⟩) hl).trans h.c1, (hb.frozen (p := ⟨g, _, none⟩) hl).trans h.f0, (hb.frozen (p := ⟨g, _, none⟩) hl).trans h.f1⟩
end Go.Proofs.YtpjaefcmaiimlaaGreat

/-
  Contract of the document's side: Small.
-/
namespace Go.Proofs.YtpjaefcmaiimlaaGreat
open Go.RowKit

def SmallI (B : Nat) (W2 : World) (m : Bool) (Z : Int) (dv xv : Value) (W : World) : Prop :=
  ∃ (ds : List Int) (X : Int), xv = .int .i64 (sg m * X) ∧ Rw B W2 dv ds W ∧ Bd ds ∧ Hid (Z = lval ds + X * 65536 ^ ds.length) ∧ 0 ≤ X ∧ X ≤ Z ∧ ds.length ≤ 4

theorem small_len {ds : List Int} {Z X : Int} (hB : Bd ds) (hq : Z = lval ds + X * 65536 ^ ds.length) (hZ : Z ≤ 9223372036854775808) (h0 : 0 < X) : ds.length ≤ 3 := by
  rcases Nat.lt_or_ge 3 ds.length with h | h
  · exfalso
    have c5 : (65536 : Int) ^ 4 ≤ 65536 ^ ds.length := p16_le (by omega)
    have c6 : 1 * (65536 : Int) ^ ds.length ≤ X * 65536 ^ ds.length := Int.mul_le_mul_of_nonneg_right (by omega) (by have := p16_pos ds.length; omega)
    have c7 := (lval_bound hB).1
    rw [show (65536 : Int) ^ 4 = 18446744073709551616 from rfl] at c5
    omega
  · exact h
theorem small_step {ds : List Int} {Z X : Int} (hq : Z = lval ds + X * 65536 ^ ds.length) :
    Z = lval (ds ++ [X % 65536]) + X / 65536 * 65536 ^ (ds ++ [X % 65536]).length := by
  rw [lval_snoc, List.length_append, List.length_singleton, Int.pow_succ, hq]
  have e2 : X / 65536 * (65536 ^ ds.length * 65536) = X / 65536 * 65536 * 65536 ^ ds.length := by
    rw [Int.mul_comm (65536 ^ ds.length), Int.mul_assoc]
  have e3 : X * 65536 ^ ds.length = (X % 65536 + X / 65536 * 65536) * 65536 ^ ds.length := by
    congr 1; omega
  rw [e2, e3, Int.add_mul]
  omega
theorem sg_tdiv (m : Bool) (X : Int) (h : 0 ≤ X) : (sg m * X).tdiv 65536 = sg m * (X / 65536) ∧ (sg m * X).tmod 65536 = sg m * (X % 65536) := by
  cases m
  · simp only [sg, Bool.false_eq_true, if_false, Int.one_mul]
    exact ⟨Int.tdiv_eq_ediv_of_nonneg h, Int.tmod_eq_emod_of_nonneg h⟩
  · have e1 : (-1 : Int) * X = -X := by omega
    have e2 : (-1 : Int) * (X / 65536) = -(X / 65536) := by omega
    have e3 : (-1 : Int) * (X % 65536) = -(X % 65536) := by omega
    simp only [sg, if_true]
    rw [e1, e2, e3, Int.neg_tdiv, Int.neg_tmod, Int.tdiv_eq_ediv_of_nonneg h, Int.tmod_eq_emod_of_nonneg h]
    exact ⟨rfl, rfl⟩

set_option maxHeartbeats 1000000 in
set_option maxRecDepth 100000 in
theorem small_num (z : Int) (h0 : -9223372036854775808 ≤ z) (h1 : z ≤ 9223372036854775807) (w : World) :
    Calls Tryz.prog 94 #[.int .i64 z] w fun e w' => ∃ v, e = .returned v ∧ NumIs v z w' ∧ Below w.heap.size w w' := by
  obtain ⟨i0, hi, hz0, hz1, hz2⟩ := info_parts info_int
  obtain ⟨m, Z, hm, hz, hZ0, hZ1⟩ : ∃ (m : Bool) (Z : Int), decide (z < 0) = m ∧ z = sg m * Z ∧ 0 ≤ Z ∧ Z ≤ 9223372036854775808 := by
    by_cases h : z < 0
    · exact ⟨true, -z, by simp; omega, by simp [sg], by omega, by omega⟩
    · exact ⟨false, z, by simp; omega, by simp [sg], by omega, by omega⟩
  have HZ := Lib.hid hz
  clear hz
  go_enter Tryz.func94, Tryz.ntmps94
  go_wp2
  refine wp_abs (fun W => w.heap.size + 1 ≤ W.heap.size ∧ Below w.heap.size w W ∧ W.frozen? ⟨w.heap.size, 0, none⟩ = false ∧ W.frozen? ⟨w.heap.size, 1, none⟩ = false ∧ W.cell? ⟨w.heap.size, 0, none⟩ = some (.bool false) ∧ W.cell? ⟨w.heap.size, 1, none⟩ = some (.slice none 0 0)) ?_ ?_
  · refine ⟨by simp, by repeat (first | (with_reducible exact Below.refl _ _) | (with_reducible refine bl_alloc ?_ _) | (with_reducible refine Below.drew ?_) | (with_reducible refine below_drewN' ?_ _) | ((with_reducible refine bl_set ?_ ?_ _); (rotate_left; (dsimp only; omega)))), ?_, ?_, ?_, ?_⟩ <;> simp [go_sem]
  rintro W2 ⟨hs, hb2, f0, f1, z0, z1⟩
  have HF : Hid (W2.frozen? ⟨w.heap.size, 0, none⟩ = false ∧ W2.frozen? ⟨w.heap.size, 1, none⟩ = false ∧ W2.cell? ⟨w.heap.size, 0, none⟩ = some (.bool false) ∧ W2.cell? ⟨w.heap.size, 1, none⟩ = some (.slice none 0 0)) := ⟨f0, f1, z0, z1⟩
  clear f0 f1 z0 z1
  go_loopw [3, 4] (fun dv xv W => SmallI W2.heap.size W2 m Z dv xv W) (fun _ xv _ => (sg m * intOf xv).toNat)
  case atStart => exact ⟨[], Z, by rw [← HZ.out], Rw.nil (Nat.le_refl _), bd_nil, by unfold Hid; simp [lval, dval], hZ0, by omega, by simp⟩
  case round =>
    obtain ⟨ds, X, rfl, hR, hB, HQ, hX0, hXZ, hl4⟩ := hrel
    have HR := Lib.hid hR
    have HB := Lib.hid hB
    have hRs := hR.sz
    clear hR hB
    by_cases hx0 : X = 0
    · subst hx0
      have hdone : Hid (Z = lval ds) := by have := HQ.out; unfold Hid; rw [this]; simp
      have hx1 : (sg m * 0 == 0) = true := by simp
      have hbW : Hid (Below w.heap.size w wr ∧ wr.frozen? ⟨w.heap.size, 0, none⟩ = false ∧ wr.frozen? ⟨w.heap.size, 1, none⟩ = false ∧ wr.cell? ⟨w.heap.size, 0, none⟩ = some (.bool false) ∧ wr.cell? ⟨w.heap.size, 1, none⟩ = some (.slice none 0 0)) :=
        ⟨bl_trans hb2 HR.out.hb, (HR.out.hb.frozen (by dsimp only; omega)).trans HF.out.1, (HR.out.hb.frozen (by dsimp only; omega)).trans HF.out.2.1, (HR.out.hb.cell (by dsimp only; omega)).trans HF.out.2.2.1, (HR.out.hb.cell (by dsimp only; omega)).trans HF.out.2.2.2⟩
      go_wp2_with fail
      refine (trim_row m HR.out HB.out).mono ?_
      rintro e w3 ⟨u, rfl, hN, hb3⟩
      obtain ⟨m3, ad3, n3, cap3, f3, rfl, hD3, hm3, hz3⟩ := hN
      have HD := Lib.hid hD3
      clear hD3
      have f0 : w3.frozen? ⟨w.heap.size, 0, none⟩ = false := (hb3.frozen (by dsimp only; omega)).trans hbW.out.2.1
      have f1 : w3.frozen? ⟨w.heap.size, 1, none⟩ = false := (hb3.frozen (by dsimp only; omega)).trans hbW.out.2.2.1
      have z0 : w3.cell? ⟨w.heap.size, 0, none⟩ = some (.bool false) := (hb3.cell (by dsimp only; omega)).trans hbW.out.2.2.2.1
      have z1 : w3.cell? ⟨w.heap.size, 1, none⟩ = some (.slice none 0 0) := (hb3.cell (by dsimp only; omega)).trans hbW.out.2.2.2.2
      go_wp2
      refine bodyPost_ret (v := .agg #[.bool m3, .slice ad3 n3 cap3]) (by simp [results, Tryz.results94, go_sem, z0, z1]) rfl ⟨_, rfl, ⟨m3, ad3, n3, cap3, f3, rfl, HD.out.res z0 _ _, hm3, by rw [HZ.out, hdone.out]; exact hz3⟩, ?_⟩
      have hb5 : Below w.heap.size w w3 := bl_trans hbW.out.1 hb3
      exact bl_set (bl_set hb5 (by dsimp only; omega) _) (by dsimp only; omega) _
    · have hl : ds.length ≤ 3 := small_len HB.out HQ.out hZ1 (by omega)
      have hts := sg_tdiv m X hX0
      obtain ⟨x, hx⟩ : ∃ x, x = sg m * X := ⟨_, rfl⟩
      obtain ⟨q, hq⟩ : ∃ q, q = sg m * (X / 65536) := ⟨_, rfl⟩
      obtain ⟨rr, hrr⟩ : ∃ rr, rr = sg m * (X % 65536) := ⟨_, rfl⟩
      rw [← hx, ← hq, ← hrr] at hts
      rw [← hx]
      have hx1 : (x == 0) = false := by simp; rw [hx]; cases m <;> simp [sg] <;> omega
      have hsel : (decide (rr < 0) = true ∧ rr < 0 ∧ -rr = X % 65536) ∨ (decide (rr < 0) = false ∧ rr = X % 65536) := by
        cases m
        · simp [sg] at hrr
          exact .inr ⟨by simp; omega, by omega⟩
        · simp [sg] at hrr
          by_cases h : rr < 0
          · exact .inl ⟨by simp; omega, h, by omega⟩
          · exact .inr ⟨by simp; omega, by omega⟩
      have brr : -65536 < rr ∧ rr < 65536 := by omega
      have bq : -9223372036854775808 ≤ q ∧ q ≤ 9223372036854775807 := by rw [hq]; cases m <;> simp [sg] <;> omega
      have hme : Hid ((sg m * q).toNat < (sg m * x).toNat) := by
        unfold Hid; rw [hq, hx]
        cases m <;> simp [sg] <;> omega
      have HQQ := Lib.hid hq
      have t1 := hts.1
      have t2 := hts.2
      clear hq hx hrr hts
      rcases hsel with ⟨s1, s2, s3⟩ | ⟨s1, s3⟩
      case' inl =>
        have en : IntKind.i64.wrap (-rr) = X % 65536 := by rw [s3]; exact IntWalk.i64_in _ (by omega)
        have en' : wrap64 (-rr) = X % 65536 := by rw [s3]; unfold wrap64; omega
        clear s3
      case' inr => subst s3
      all_goals
        go_wp2_with (first
          | (at_builtin; refine wpList_append_own _ rfl _ _ 43 rfl W2.heap.size 3 i0 (.int .i64 0) 1 8 Tryz.underlying43 hi hz0 hz1 hz2 rfl (by decide) _ _ _ rfl (HR.out.alloc _).own ⟨wr.heap.size, 0, none⟩ 1 1 [.int .i64 (X % 65536)] rfl rfl (cell_one_new _ _ _) (by intro u hu; simp at hu; subst hu; rfl) (by unfold maxLen; omega) (by omega) (by simp; omega) ?_)
          | go_in)
        intro v' w1 hown' hgrow _
        have R : Hid (Rw W2.heap.size W2 v' (ds ++ [X % 65536]) w1) := (HR.out.alloc _).more hown' hgrow
        clear hown' hgrow
        go_wp2
        go_roundw
        case rel =>
          refine ⟨ds ++ [X % 65536], X / 65536, by rw [← HQQ.out], R.out, bd_snoc HB.out (by omega) (by omega), small_step HQ.out, by omega, by omega, by simp; omega⟩
        case measure => simp only [intOf]; exact hme.out
end Go.Proofs.YtpjaefcmaiimlaaGreat

/-
  Contracts of the document's num, minus, Det.
-/
namespace Go.Proofs.YtpjaefcmaiimlaaGreat
open Go.RowKit

/-- it answers the number z -/
def NumP (z : Int) (w : World) (e : Ending) (w' : World) : Prop := ∃ x, e = .returned x ∧ NumIs x z w' ∧ Below w.heap.size w w'
theorem NumIs.res {v : Value} {z : Int} {W : World} (h : NumIs v z W) {b : Nat} {x : Bool} {s : Value} (hv : Var W b [.bool x, s]) (y : Bool) (s' : Value) : NumIs v z ((W.setCell ⟨b, 0, none⟩ (.bool y)).setCell ⟨b, 1, none⟩ s') := by
  obtain ⟨m, ad, n, c, f, e, hd, hm, hz⟩ := h
  exact ⟨m, ad, n, c, f, e, hd.res hv.two.1 _ _, hm, hz⟩
theorem Ab.big {x A : Int} (hx : Ab x A) (h : A < 65536 ^ 100) : -BIG < x ∧ x < BIG := by unfold Ab at hx; unfold BIG; omega

set_option maxHeartbeats 1000000 in
set_option maxRecDepth 100000 in
theorem num_n (x : Int) (hx : R64 x) (w : World) : Calls Tryz.prog 117 #[.int .i64 x] w (NumP x w) := by
  have HX := Lib.hid hx
  clear hx
  go_enter Tryz.func117, Tryz.ntmps117
  go_upto_region 1 with (fail)
  refine wp_abs (fun W => Var W w.heap.size [.bool false, .slice none 0 0] ∧ Grew w 1 W) ?_ ?_
  · exact ⟨var2_new _ _ _ _ _ rfl, by repeat (first | (with_reducible exact Below.refl _ _) | (with_reducible refine bl_alloc ?_ _) | (with_reducible refine Below.drew ?_) | (with_reducible refine below_drewN' ?_ _) | ((with_reducible refine bl_set ?_ ?_ _); (rotate_left; (dsimp only; omega)))), by simp⟩
  rintro W0 ⟨v1, hG⟩
  have HV := Lib.hid (And.intro v1 hG)
  clear v1 hG
  go_wp2_with fail
  refine (small_num x HX.out.1 HX.out.2 _).mono ?_
  rintro e w1 ⟨v, rfl, hN, hb1⟩
  obtain ⟨m, ad, n, c, rfl⟩ := hN.shape
  have HN := Lib.hid hN
  have HV1 := Lib.hid (And.intro (HV.out.1.below hb1) (HV.out.2.below hb1))
  clear HV hN hb1
  obtain ⟨k0, k1⟩ := HV1.out.1.two
  obtain ⟨f0, f1⟩ := HV1.out.1.free2
  go_wp2
  refine bodyPost_ret (v := .agg #[.bool m, .slice ad n c]) (by simp [results, Tryz.results117, go_sem, k0, k1]; done) rfl ⟨_, rfl, HN.out.res HV1.out.1 _ _, ((HV1.out.2.set (by dsimp only; omega) _).set (by dsimp only; omega) _).hb⟩

set_option maxHeartbeats 1000000 in
set_option maxRecDepth 100000 in
theorem minus_n (u0 u1 : Value) (z0 z1 : Int) (hb0 : -BIG < z0 ∧ z0 < BIG) (hb1 : -BIG < z1 ∧ z1 < BIG) (w : World) (h0 : NumIs u0 z0 w) (h1 : NumIs u1 z1 w) : Calls Tryz.prog 124 #[u0, u1] w (NumP (z0 - z1) w) := by
  obtain ⟨m0, ad0, n0, c0, rfl⟩ := h0.shape
  have HI0 := Lib.hid h0
  clear h0
  obtain ⟨m1, ad1, n1, c1, rfl⟩ := h1.shape
  have HI1 := Lib.hid h1
  clear h1
  have HB : Hid ((-BIG < z0 ∧ z0 < BIG) ∧ (-BIG < -z1 ∧ -z1 < BIG)) := ⟨hb0, by omega⟩
  clear hb0 hb1
  go_enter Tryz.func124, Tryz.ntmps124
  go_upto_region 1 with (fail)
  refine wp_abs (fun W => (fun W => Var W (w.heap.size) [.bool m0, .slice ad0 n0 c0] ∧ Var W (w.heap.size + 1) [.bool m1, .slice ad1 n1 c1] ∧ Grew w 3 W) W ∧ Var W (w.heap.size + 1 + 1) [.bool false, .slice none 0 0]) ?_ ?_
  · exact ⟨⟨(var2_new _ _ _ _ _ rfl).below (bl_alloc (bl_one _ _) _), (var2_new _ _ _ _ _ (by simp)).below (bl_one _ _), by repeat (first | (with_reducible exact Below.refl _ _) | (with_reducible refine bl_alloc ?_ _) | (with_reducible refine Below.drew ?_) | (with_reducible refine below_drewN' ?_ _) | ((with_reducible refine bl_set ?_ ?_ _); (rotate_left; (dsimp only; omega)))), by simp⟩, var2_new _ _ _ _ _ (by simp)⟩
  rintro W0 ⟨hS0, hr⟩
  have HS0 := Lib.hid hS0
  have HR := Lib.hid hr
  replace HI0 := Lib.hid (HI0.out.below HS0.out.2.2.hb)
  replace HI1 := Lib.hid (HI1.out.below HS0.out.2.2.hb)
  clear hS0 hr
  refine wp_region_held_drew (S := fun W => Var W (w.heap.size) [.bool m0, .slice ad0 n0 c0] ∧ Var W (w.heap.size + 1) [.bool m1, .slice ad1 n1 c1] ∧ Grew w 3 W) (by kernel_rfl) ?_ (fun q1 => ?_)
  · exact ⟨HS0.out.1.below (bel_drew _), HS0.out.2.1.below (bel_drew _), HS0.out.2.2.below (bel_drew _)⟩
  replace HR := Lib.hid (HR.out.below (bel_drew _))
  replace HI0 := Lib.hid (HI0.out.below (bel_drew _))
  replace HI1 := Lib.hid (HI1.out.below (bel_drew _))
  revert HR
  revert HI0
  revert HI1
  revert q1
  generalize World.drew _ = W1
  intro q1 HI1 HI0 HR
  refine tk (i := 0) (v := ?_) rfl (Or.inl ⟨by rfl, ?_⟩) ?_
  rotate_left
  · intro Wq hSw
    obtain ⟨k0, k1⟩ := (id hSw).1.two
    clear hSw
    go_simp
    all_goals (with_reducible rfl)
  try simp only [Act.put, x2, x4, x5, x6, x7]
  refine tk (i := 1) (v := ?_) rfl (Or.inl ⟨by rfl, ?_⟩) ?_
  rotate_left
  · intro Wq hSw
    obtain ⟨k0, k1⟩ := (id hSw).2.1.two
    clear hSw
    go_simp
    all_goals (with_reducible rfl)
  try simp only [Act.put, x2, x3, x4, x5, x6, x7]
  refine r1 (i := 2) rfl (fun K hK => ?_)
  go_simp
  go_at_call 111
  (with_reducible refine (neg_num _ z1 _ HI1.out).mono ?_); rintro e w1 ⟨va, rfl, hNa, hb1⟩
  obtain ⟨ma, ada, na, ca, rfl⟩ := hNa.shape
  have HNa := Lib.hid hNa
  clear hNa
  go_wp2_with fail
  refine hK.out _ _ ?_ (fun q2 => ?_)
  · exact ⟨(id q1).1.below hb1, (id q1).2.1.below hb1, (id q1).2.2.below hb1⟩
  replace HR := Lib.hid (HR.out.below hb1)
  replace HI0 := Lib.hid (HI0.out.below hb1)
  replace HI1 := Lib.hid (HI1.out.below hb1)
  clear hK K q1 hb1
  have q1 := q2
  clear q2
  try simp only [Act.put, x2, x3, x4, x5, x6, x7]
  refine r1 (i := 3) rfl (fun K hK => ?_)
  go_simp
  go_at_call 96
  (with_reducible refine (plus_c _ _ z0 (-z1) _ HI0.out HNa.out HB.out.1 HB.out.2).mono ?_); rintro e w1 ⟨vb, rfl, hNb, hb1⟩
  obtain ⟨mb, adb, nb, cb, rfl⟩ := hNb.shape
  have HNb := Lib.hid hNb
  clear hNb
  go_wp2_with fail
  refine hK.out _ _ ?_ (fun q2 => ?_)
  · exact ⟨(id q1).1.below hb1, (id q1).2.1.below hb1, (id q1).2.2.below hb1⟩
  replace HR := Lib.hid (HR.out.below hb1)
  replace HI0 := Lib.hid (HI0.out.below hb1)
  replace HI1 := Lib.hid (HI1.out.below hb1)
  replace HNa := Lib.hid (HNa.out.below hb1)
  clear hK K q1 hb1
  have q1 := q2
  clear q2
  try simp only [Act.put, x2, x3, x4, x5, x6, x7]
  refine r1 (i := 4) rfl (fun K hK => ?_)
  obtain ⟨k0, k1⟩ := HR.out.two
  obtain ⟨f0, f1⟩ := HR.out.free2
  go_simp
  refine hK.out _ _ ?_ (fun q2 => ?_)
  · exact ⟨(((id q1).1.far (by dsimp only; omega) _).far (by dsimp only; omega) _), (((id q1).2.1.far (by dsimp only; omega) _).far (by dsimp only; omega) _), (((id q1).2.2.set (by dsimp only; omega) _).set (by dsimp only; omega) _)⟩
  replace HI0 := Lib.hid (HI0.out.res HR.out (mb) (.slice adb nb cb))
  replace HI1 := Lib.hid (HI1.out.res HR.out (mb) (.slice adb nb cb))
  replace HNa := Lib.hid (HNa.out.res HR.out (mb) (.slice adb nb cb))
  replace HNb := Lib.hid (HNb.out.res HR.out (mb) (.slice adb nb cb))
  replace HR := Lib.hid (HR.out.set2 (.bool mb) (.slice adb nb cb))
  clear hK K q1 k0 k1 f0 f1
  have q1 := q2
  clear q2
  try simp only [Act.put, x2, x3, x4, x5, x6, x7]
  refine wpAnyH_done (by kernel_rfl) ?_ _
  go_wp2_with fail
  obtain ⟨k0, k1⟩ := HR.out.two
  refine bodyPost_ret (v := .agg #[.bool mb, .slice adb nb cb]) (by simp [results, Tryz.results124, go_sem, k0, k1]; done) rfl ⟨_, rfl, HNb.out, (id q1).2.2.hb⟩

set_option maxHeartbeats 4000000 in
set_option maxRecDepth 100000 in
theorem det_n (u0 u1 u2 u3 : Value) (z0 z1 z2 z3 : Int) (hb0 : Ab z0 1208925819614629174706176) (hb1 : Ab z1 1208925819614629174706176) (hb2 : Ab z2 1208925819614629174706176) (hb3 : Ab z3 1208925819614629174706176) (w : World) (h0 : NumIs u0 z0 w) (h1 : NumIs u1 z1 w) (h2 : NumIs u2 z2 w) (h3 : NumIs u3 z3 w) : Calls Tryz.prog 116 #[u0, u1, u2, u3] w (NumP (z0 * z3 - z1 * z2) w) := by
  obtain ⟨m0, ad0, n0, c0, rfl⟩ := h0.shape
  have HI0 := Lib.hid h0
  clear h0
  obtain ⟨m1, ad1, n1, c1, rfl⟩ := h1.shape
  have HI1 := Lib.hid h1
  clear h1
  obtain ⟨m2, ad2, n2, c2, rfl⟩ := h2.shape
  have HI2 := Lib.hid h2
  clear h2
  obtain ⟨m3, ad3, n3, c3, rfl⟩ := h3.shape
  have HI3 := Lib.hid h3
  clear h3
  have HB0 := Lib.hid (hb0.big (by decide))
  have HB1 := Lib.hid (hb1.big (by decide))
  have HB2 := Lib.hid (hb2.big (by decide))
  have HB3 := Lib.hid (hb3.big (by decide))
  have HP0 := Lib.hid ((hb0.mul hb3).big (by decide))
  have HP1 := Lib.hid ((hb1.mul hb2).big (by decide))
  clear hb0 hb1 hb2 hb3
  go_enter Tryz.func116, Tryz.ntmps116
  go_upto_region 1 with (fail)
  refine wp_abs (fun W => (fun W => Var W (w.heap.size) [.bool m0, .slice ad0 n0 c0] ∧ Var W (w.heap.size + 1) [.bool m1, .slice ad1 n1 c1] ∧ Var W (w.heap.size + 1 + 1) [.bool m2, .slice ad2 n2 c2] ∧ Var W (w.heap.size + 1 + 1 + 1) [.bool m3, .slice ad3 n3 c3] ∧ Grew w 5 W) W ∧ Var W (w.heap.size + 1 + 1 + 1 + 1) [.bool false, .slice none 0 0]) ?_ ?_
  · exact ⟨⟨(var2_new _ _ _ _ _ rfl).below (bl_alloc (bl_alloc (bl_alloc (bl_one _ _) _) _) _), (var2_new _ _ _ _ _ (by simp)).below (bl_alloc (bl_alloc (bl_one _ _) _) _), (var2_new _ _ _ _ _ (by simp)).below (bl_alloc (bl_one _ _) _), (var2_new _ _ _ _ _ (by simp)).below (bl_one _ _), by repeat (first | (with_reducible exact Below.refl _ _) | (with_reducible refine bl_alloc ?_ _) | (with_reducible refine Below.drew ?_) | (with_reducible refine below_drewN' ?_ _) | ((with_reducible refine bl_set ?_ ?_ _); (rotate_left; (dsimp only; omega)))), by simp⟩, var2_new _ _ _ _ _ (by simp)⟩
  rintro W0 ⟨hS0, hr⟩
  have HS0 := Lib.hid hS0
  have HR := Lib.hid hr
  replace HI0 := Lib.hid (HI0.out.below HS0.out.2.2.2.2.hb)
  replace HI1 := Lib.hid (HI1.out.below HS0.out.2.2.2.2.hb)
  replace HI2 := Lib.hid (HI2.out.below HS0.out.2.2.2.2.hb)
  replace HI3 := Lib.hid (HI3.out.below HS0.out.2.2.2.2.hb)
  clear hS0 hr
  refine wp_region_held_drew (S := fun W => Var W (w.heap.size) [.bool m0, .slice ad0 n0 c0] ∧ Var W (w.heap.size + 1) [.bool m1, .slice ad1 n1 c1] ∧ Var W (w.heap.size + 1 + 1) [.bool m2, .slice ad2 n2 c2] ∧ Var W (w.heap.size + 1 + 1 + 1) [.bool m3, .slice ad3 n3 c3] ∧ Grew w 5 W) (by kernel_rfl) ?_ (fun q1 => ?_)
  · exact ⟨HS0.out.1.below (bel_drew _), HS0.out.2.1.below (bel_drew _), HS0.out.2.2.1.below (bel_drew _), HS0.out.2.2.2.1.below (bel_drew _), HS0.out.2.2.2.2.below (bel_drew _)⟩
  replace HR := Lib.hid (HR.out.below (bel_drew _))
  replace HI0 := Lib.hid (HI0.out.below (bel_drew _))
  replace HI1 := Lib.hid (HI1.out.below (bel_drew _))
  replace HI2 := Lib.hid (HI2.out.below (bel_drew _))
  replace HI3 := Lib.hid (HI3.out.below (bel_drew _))
  revert HR
  revert HI0
  revert HI1
  revert HI2
  revert HI3
  revert q1
  generalize World.drew _ = W1
  intro q1 HI3 HI2 HI1 HI0 HR
  refine tk (i := 0) (v := ?_) rfl (Or.inl ⟨by rfl, ?_⟩) ?_
  rotate_left
  · intro Wq hSw
    obtain ⟨k0, k1⟩ := (id hSw).1.two
    clear hSw
    go_simp
    all_goals (with_reducible rfl)
  try simp only [Act.put, x2, x4, x5, x6, x7]
  refine tk (i := 1) (v := ?_) rfl (Or.inl ⟨by rfl, ?_⟩) ?_
  rotate_left
  · intro Wq hSw
    obtain ⟨k0, k1⟩ := (id hSw).2.2.2.1.two
    clear hSw
    go_simp
    all_goals (with_reducible rfl)
  try simp only [Act.put, x2, x3, x4, x5, x6, x7]
  refine tk (i := 3) (v := ?_) rfl (Or.inl ⟨by rfl, ?_⟩) ?_
  rotate_left
  · intro Wq hSw
    obtain ⟨k0, k1⟩ := (id hSw).2.1.two
    clear hSw
    go_simp
    all_goals (with_reducible rfl)
  try simp only [Act.put, x2, x3, x4, x5, x6, x7]
  refine tk (i := 4) (v := ?_) rfl (Or.inl ⟨by rfl, ?_⟩) ?_
  rotate_left
  · intro Wq hSw
    obtain ⟨k0, k1⟩ := (id hSw).2.2.1.two
    clear hSw
    go_simp
    all_goals (with_reducible rfl)
  try simp only [Act.put, x2, x3, x4, x5, x6, x7]
  refine r1 (i := 2) rfl (fun K hK => ?_)
  go_simp
  go_at_call 95
  (with_reducible refine (times_num _ _ z0 z3 _ HI0.out HI3.out HB0.out HB3.out).mono ?_); rintro e w1 ⟨va, rfl, hNa, hb1⟩
  obtain ⟨ma, ada, na, ca, rfl⟩ := hNa.shape
  have HNa := Lib.hid hNa
  clear hNa
  go_wp2_with fail
  refine hK.out _ _ ?_ (fun q2 => ?_)
  · exact ⟨(id q1).1.below hb1, (id q1).2.1.below hb1, (id q1).2.2.1.below hb1, (id q1).2.2.2.1.below hb1, (id q1).2.2.2.2.below hb1⟩
  replace HR := Lib.hid (HR.out.below hb1)
  replace HI0 := Lib.hid (HI0.out.below hb1)
  replace HI1 := Lib.hid (HI1.out.below hb1)
  replace HI2 := Lib.hid (HI2.out.below hb1)
  replace HI3 := Lib.hid (HI3.out.below hb1)
  clear hK K q1 hb1
  have q1 := q2
  clear q2
  try simp only [Act.put, x2, x3, x4, x5, x6, x7]
  refine r1 (i := 5) rfl (fun K hK => ?_)
  go_simp
  go_at_call 95
  (with_reducible refine (times_num _ _ z1 z2 _ HI1.out HI2.out HB1.out HB2.out).mono ?_); rintro e w1 ⟨vb, rfl, hNb, hb1⟩
  obtain ⟨mb, adb, nb, cb, rfl⟩ := hNb.shape
  have HNb := Lib.hid hNb
  clear hNb
  go_wp2_with fail
  refine hK.out _ _ ?_ (fun q2 => ?_)
  · exact ⟨(id q1).1.below hb1, (id q1).2.1.below hb1, (id q1).2.2.1.below hb1, (id q1).2.2.2.1.below hb1, (id q1).2.2.2.2.below hb1⟩
  replace HR := Lib.hid (HR.out.below hb1)
  replace HI0 := Lib.hid (HI0.out.below hb1)
  replace HI1 := Lib.hid (HI1.out.below hb1)
  replace HI2 := Lib.hid (HI2.out.below hb1)
  replace HI3 := Lib.hid (HI3.out.below hb1)
  replace HNa := Lib.hid (HNa.out.below hb1)
  clear hK K q1 hb1
  have q1 := q2
  clear q2
  try simp only [Act.put, x2, x3, x4, x5, x6, x7]
  refine r1 (i := 6) rfl (fun K hK => ?_)
  go_simp
  go_at_call 124
  (with_reducible refine (minus_n _ _ (z0 * z3) (z1 * z2) HP0.out HP1.out _ HNa.out HNb.out).mono ?_); rintro e w1 ⟨vc, rfl, hNc, hb1⟩
  obtain ⟨mc, adc, nc, cc, rfl⟩ := hNc.shape
  have HNc := Lib.hid hNc
  clear hNc
  go_wp2_with fail
  refine hK.out _ _ ?_ (fun q2 => ?_)
  · exact ⟨(id q1).1.below hb1, (id q1).2.1.below hb1, (id q1).2.2.1.below hb1, (id q1).2.2.2.1.below hb1, (id q1).2.2.2.2.below hb1⟩
  replace HR := Lib.hid (HR.out.below hb1)
  replace HI0 := Lib.hid (HI0.out.below hb1)
  replace HI1 := Lib.hid (HI1.out.below hb1)
  replace HI2 := Lib.hid (HI2.out.below hb1)
  replace HI3 := Lib.hid (HI3.out.below hb1)
  replace HNa := Lib.hid (HNa.out.below hb1)
  replace HNb := Lib.hid (HNb.out.below hb1)
  clear hK K q1 hb1
  have q1 := q2
  clear q2
  try simp only [Act.put, x2, x3, x4, x5, x6, x7]
  refine r1 (i := 7) rfl (fun K hK => ?_)
  obtain ⟨k0, k1⟩ := HR.out.two
  obtain ⟨f0, f1⟩ := HR.out.free2
  go_simp
  refine hK.out _ _ ?_ (fun q2 => ?_)
  · exact ⟨(((id q1).1.far (by dsimp only; omega) _).far (by dsimp only; omega) _), (((id q1).2.1.far (by dsimp only; omega) _).far (by dsimp only; omega) _), (((id q1).2.2.1.far (by dsimp only; omega) _).far (by dsimp only; omega) _), (((id q1).2.2.2.1.far (by dsimp only; omega) _).far (by dsimp only; omega) _), (((id q1).2.2.2.2.set (by dsimp only; omega) _).set (by dsimp only; omega) _)⟩
  replace HI0 := Lib.hid (HI0.out.res HR.out (mc) (.slice adc nc cc))
  replace HI1 := Lib.hid (HI1.out.res HR.out (mc) (.slice adc nc cc))
  replace HI2 := Lib.hid (HI2.out.res HR.out (mc) (.slice adc nc cc))
  replace HI3 := Lib.hid (HI3.out.res HR.out (mc) (.slice adc nc cc))
  replace HNa := Lib.hid (HNa.out.res HR.out (mc) (.slice adc nc cc))
  replace HNb := Lib.hid (HNb.out.res HR.out (mc) (.slice adc nc cc))
  replace HNc := Lib.hid (HNc.out.res HR.out (mc) (.slice adc nc cc))
  replace HR := Lib.hid (HR.out.set2 (.bool mc) (.slice adc nc cc))
  clear hK K q1 k0 k1 f0 f1
  have q1 := q2
  clear q2
  try simp only [Act.put, x2, x3, x4, x5, x6, x7]
  refine wpAnyH_done (by kernel_rfl) ?_ _
  go_wp2_with fail
  obtain ⟨k0, k1⟩ := HR.out.two
  refine bodyPost_ret (v := .agg #[.bool mc, .slice adc nc cc]) (by simp [results, Tryz.results116, go_sem, k0, k1]; done) rfl ⟨_, rfl, HNc.out, (id q1).2.2.2.2.hb⟩
end Go.Proofs.YtpjaefcmaiimlaaGreat

/-
  Contracts of the document's Area, Orient.
-/
namespace Go.Proofs.YtpjaefcmaiimlaaGreat
open Go.RowKit

set_option maxHeartbeats 8000000 in
set_option maxRecDepth 100000 in
theorem area_n (a b c : Pt) (ha : a.wf) (hb : b.wf) (hc : c.wf) (w : World) : Calls Tryz.prog 98 #[.agg #[.int .i64 a.x, .int .i64 a.y], .agg #[.int .i64 b.x, .int .i64 b.y], .agg #[.int .i64 c.x, .int .i64 c.y]] w (NumP (crossZ a b c) w) := by
  have Ra : Hid (R64 a.x ∧ R64 a.y) := ⟨⟨ha.1, ha.2.1⟩, ⟨ha.2.2.1, ha.2.2.2⟩⟩
  have Za : Hid (Ab a.x 1208925819614629174706176 ∧ Ab a.y 1208925819614629174706176) := by have := Ra.out; unfold R64 at this; unfold Hid Ab; omega
  have Rb : Hid (R64 b.x ∧ R64 b.y) := ⟨⟨hb.1, hb.2.1⟩, ⟨hb.2.2.1, hb.2.2.2⟩⟩
  have Zb : Hid (Ab b.x 1208925819614629174706176 ∧ Ab b.y 1208925819614629174706176) := by have := Rb.out; unfold R64 at this; unfold Hid Ab; omega
  have Rc : Hid (R64 c.x ∧ R64 c.y) := ⟨⟨hc.1, hc.2.1⟩, ⟨hc.2.2.1, hc.2.2.2⟩⟩
  have Zc : Hid (Ab c.x 1208925819614629174706176 ∧ Ab c.y 1208925819614629174706176) := by have := Rc.out; unfold R64 at this; unfold Hid Ab; omega
  have d0 := (Za.out.1.mul Zb.out.2).sub (Za.out.2.mul Zb.out.1)
  have d1 := (Zb.out.1.mul Zc.out.2).sub (Zb.out.2.mul Zc.out.1)
  have d2 := (Zc.out.1.mul Za.out.2).sub (Zc.out.2.mul Za.out.1)
  have D0 := Lib.hid (d0.big (by decide))
  have D1 := Lib.hid (d1.big (by decide))
  have D2 := Lib.hid (d2.big (by decide))
  have D3 := Lib.hid ((d0.add d1).big (by decide))
  clear d0 d1 d2 ha hb hc
  have HE : Hid (a.x * b.y - a.y * b.x + (b.x * c.y - b.y * c.x) + (c.x * a.y - c.y * a.x) = crossZ a b c) := by unfold Hid crossZ; grind
  go_enter Tryz.func98, Tryz.ntmps98
  go_upto_region 1 with (fail)
  refine wp_abs (fun W => (fun W => Var W (w.heap.size) [.int .i64 a.x, .int .i64 a.y] ∧ Var W (w.heap.size + 1) [.int .i64 b.x, .int .i64 b.y] ∧ Var W (w.heap.size + 1 + 1) [.int .i64 c.x, .int .i64 c.y] ∧ Grew w 4 W) W ∧ Var W (w.heap.size + 1 + 1 + 1) [.bool false, .slice none 0 0]) ?_ ?_
  · exact ⟨⟨(var2_new _ _ _ _ _ rfl).below (bl_alloc (bl_alloc (bl_one _ _) _) _), (var2_new _ _ _ _ _ (by simp)).below (bl_alloc (bl_one _ _) _), (var2_new _ _ _ _ _ (by simp)).below (bl_one _ _), by repeat (first | (with_reducible exact Below.refl _ _) | (with_reducible refine bl_alloc ?_ _) | (with_reducible refine Below.drew ?_) | (with_reducible refine below_drewN' ?_ _) | ((with_reducible refine bl_set ?_ ?_ _); (rotate_left; (dsimp only; omega)))), by simp⟩, var2_new _ _ _ _ _ (by simp)⟩
  rintro W0 ⟨hS0, hr⟩
  have HS0 := Lib.hid hS0
  have HR := Lib.hid hr
  clear hS0 hr
  go_upto_region 1 with (fail)
  go_cut [7] (fun x W => ∃ g mm am nm cm, x = .pointer (some ⟨g, 0, none⟩) ∧ w.heap.size + 4 ≤ g ∧ Var W g [.bool mm, .slice am nm cm] ∧ NumIs (.agg #[.bool mm, .slice am nm cm]) (a.x * b.y - a.y * b.x) W ∧ Var W (w.heap.size + 1 + 1 + 1) [.bool false, .slice none 0 0] ∧ (fun W => Var W (w.heap.size) [.int .i64 a.x, .int .i64 a.y] ∧ Var W (w.heap.size + 1) [.int .i64 b.x, .int .i64 b.y] ∧ Var W (w.heap.size + 1 + 1) [.int .i64 c.x, .int .i64 c.y] ∧ Grew w 4 W) W)
  case first =>
    refine wp_region_held_drew (S := fun W => Var W (w.heap.size) [.int .i64 a.x, .int .i64 a.y] ∧ Var W (w.heap.size + 1) [.int .i64 b.x, .int .i64 b.y] ∧ Var W (w.heap.size + 1 + 1) [.int .i64 c.x, .int .i64 c.y] ∧ Grew w 4 W) (by kernel_rfl) ?_ (fun q1 => ?_)
    · exact ⟨HS0.out.1.below (bel_drew _), HS0.out.2.1.below (bel_drew _), HS0.out.2.2.1.below (bel_drew _), HS0.out.2.2.2.below (bel_drew _)⟩
    replace HR := Lib.hid (HR.out.below (bel_drew _))
    revert HR
    revert q1
    generalize World.drew _ = W1
    intro q1 HR
    refine tk (i := 0) (v := ?_) rfl (Or.inl ⟨by rfl, ?_⟩) ?_
    rotate_left
    · intro Wq hSw
      clear hSw
      go_simp
      all_goals (with_reducible rfl)
    try simp only [Act.put, x2, x4, x5, x6, x7]
    refine tk (i := 1) (v := ?_) rfl (Or.inl ⟨by rfl, ?_⟩) ?_
    rotate_left
    · intro Wq hSw
      obtain ⟨k0, k1⟩ := (id hSw).1.two
      clear hSw
      go_simp
      all_goals (with_reducible rfl)
    try simp only [Act.put, x2, x3, x4, x5, x6, x7]
    refine tk (i := 3) (v := ?_) rfl (Or.inl ⟨by rfl, ?_⟩) ?_
    rotate_left
    · intro Wq hSw
      clear hSw
      go_simp
      all_goals (with_reducible rfl)
    try simp only [Act.put, x2, x3, x4, x5, x6, x7]
    refine tk (i := 4) (v := ?_) rfl (Or.inl ⟨by rfl, ?_⟩) ?_
    rotate_left
    · intro Wq hSw
      obtain ⟨k0, k1⟩ := (id hSw).1.two
      clear hSw
      go_simp
      all_goals (with_reducible rfl)
    try simp only [Act.put, x2, x3, x4, x5, x6, x7]
    refine tk (i := 6) (v := ?_) rfl (Or.inl ⟨by rfl, ?_⟩) ?_
    rotate_left
    · intro Wq hSw
      clear hSw
      go_simp
      all_goals (with_reducible rfl)
    try simp only [Act.put, x2, x3, x4, x5, x6, x7]
    refine tk (i := 7) (v := ?_) rfl (Or.inl ⟨by rfl, ?_⟩) ?_
    rotate_left
    · intro Wq hSw
      obtain ⟨k0, k1⟩ := (id hSw).2.1.two
      clear hSw
      go_simp
      all_goals (with_reducible rfl)
    try simp only [Act.put, x2, x3, x4, x5, x6, x7]
    refine tk (i := 9) (v := ?_) rfl (Or.inl ⟨by rfl, ?_⟩) ?_
    rotate_left
    · intro Wq hSw
      clear hSw
      go_simp
      all_goals (with_reducible rfl)
    try simp only [Act.put, x2, x3, x4, x5, x6, x7]
    refine tk (i := 10) (v := ?_) rfl (Or.inl ⟨by rfl, ?_⟩) ?_
    rotate_left
    · intro Wq hSw
      obtain ⟨k0, k1⟩ := (id hSw).2.1.two
      clear hSw
      go_simp
      all_goals (with_reducible rfl)
    try simp only [Act.put, x2, x3, x4, x5, x6, x7]
    refine r2 (i := 2) (j := 13) rfl (fun K hK => ?_) rfl (fun K hK => ?_)
    · go_simp
      go_at_call 117
      (with_reducible refine (num_n a.x Ra.out.1 _).mono ?_); rintro e w1 ⟨vp0, rfl, hNp0, hb1⟩
      obtain ⟨mp0, adp0, np0, cp0, rfl⟩ := hNp0.shape
      have HNp0 := Lib.hid hNp0
      clear hNp0
      go_wp2_with fail
      refine hK.out _ _ ?_ (fun q2 => ?_)
      · exact ⟨(id q1).1.below hb1, (id q1).2.1.below hb1, (id q1).2.2.1.below hb1, (id q1).2.2.2.below hb1⟩
      replace HR := Lib.hid (HR.out.below hb1)
      clear hK K q1 hb1
      have q1 := q2
      clear q2
      try simp only [Act.put, x2, x3, x4, x5, x6, x7]
      refine r2 (i := 5) (j := 13) rfl (fun K hK => ?_) rfl (fun K hK => ?_)
      · go_simp
        go_at_call 117
        (with_reducible refine (num_n a.y Ra.out.2 _).mono ?_); rintro e w1 ⟨vp1, rfl, hNp1, hb1⟩
        obtain ⟨mp1, adp1, np1, cp1, rfl⟩ := hNp1.shape
        have HNp1 := Lib.hid hNp1
        clear hNp1
        go_wp2_with fail
        refine hK.out _ _ ?_ (fun q2 => ?_)
        · exact ⟨(id q1).1.below hb1, (id q1).2.1.below hb1, (id q1).2.2.1.below hb1, (id q1).2.2.2.below hb1⟩
        replace HR := Lib.hid (HR.out.below hb1)
        replace HNp0 := Lib.hid (HNp0.out.below hb1)
        clear hK K q1 hb1
        have q1 := q2
        clear q2
        try simp only [Act.put, x2, x3, x4, x5, x6, x7]
        refine r2 (i := 8) (j := 13) rfl (fun K hK => ?_) rfl (fun K hK => ?_)
        · go_simp
          go_at_call 117
          (with_reducible refine (num_n b.x Rb.out.1 _).mono ?_); rintro e w1 ⟨vp2, rfl, hNp2, hb1⟩
          obtain ⟨mp2, adp2, np2, cp2, rfl⟩ := hNp2.shape
          have HNp2 := Lib.hid hNp2
          clear hNp2
          go_wp2_with fail
          refine hK.out _ _ ?_ (fun q2 => ?_)
          · exact ⟨(id q1).1.below hb1, (id q1).2.1.below hb1, (id q1).2.2.1.below hb1, (id q1).2.2.2.below hb1⟩
          replace HR := Lib.hid (HR.out.below hb1)
          replace HNp0 := Lib.hid (HNp0.out.below hb1)
          replace HNp1 := Lib.hid (HNp1.out.below hb1)
          clear hK K q1 hb1
          have q1 := q2
          clear q2
          try simp only [Act.put, x2, x3, x4, x5, x6, x7]
          refine r2 (i := 11) (j := 13) rfl (fun K hK => ?_) rfl (fun K hK => ?_)
          · go_simp
            go_at_call 117
            (with_reducible refine (num_n b.y Rb.out.2 _).mono ?_); rintro e w1 ⟨vp3, rfl, hNp3, hb1⟩
            obtain ⟨mp3, adp3, np3, cp3, rfl⟩ := hNp3.shape
            have HNp3 := Lib.hid hNp3
            clear hNp3
            go_wp2_with fail
            refine hK.out _ _ ?_ (fun q2 => ?_)
            · exact ⟨(id q1).1.below hb1, (id q1).2.1.below hb1, (id q1).2.2.1.below hb1, (id q1).2.2.2.below hb1⟩
            replace HR := Lib.hid (HR.out.below hb1)
            replace HNp0 := Lib.hid (HNp0.out.below hb1)
            replace HNp1 := Lib.hid (HNp1.out.below hb1)
            replace HNp2 := Lib.hid (HNp2.out.below hb1)
            clear hK K q1 hb1
            have q1 := q2
            clear q2
            try simp only [Act.put, x2, x3, x4, x5, x6, x7]
            refine r2 (i := 12) (j := 13) rfl (fun K hK => ?_) rfl (fun K hK => ?_)
            · go_simp
              go_at_call 116
              (with_reducible refine (det_n _ _ _ _ a.x a.y b.x b.y Za.out.1 Za.out.2 Zb.out.1 Zb.out.2 _ HNp0.out HNp1.out HNp2.out HNp3.out).mono ?_); rintro e w1 ⟨vpd, rfl, hNpd, hb1⟩
              obtain ⟨mpd, adpd, npd, cpd, rfl⟩ := hNpd.shape
              have HNpd := Lib.hid hNpd
              clear hNpd
              go_wp2_with fail
              refine hK.out _ _ ?_ (fun q2 => ?_)
              · exact ⟨(id q1).1.below hb1, (id q1).2.1.below hb1, (id q1).2.2.1.below hb1, (id q1).2.2.2.below hb1⟩
              replace HR := Lib.hid (HR.out.below hb1)
              replace HNp0 := Lib.hid (HNp0.out.below hb1)
              replace HNp1 := Lib.hid (HNp1.out.below hb1)
              replace HNp2 := Lib.hid (HNp2.out.below hb1)
              replace HNp3 := Lib.hid (HNp3.out.below hb1)
              clear hK K q1 hb1
              have q1 := q2
              clear q2
              try simp only [Act.put, x2, x3, x4, x5, x6, x7]
              refine r1 (i := 13) rfl (fun K hK => ?_)
              go_simp
              refine hK.out _ _ ?_ (fun q2 => ?_)
              · exact ⟨(id q1).1.below (bl_one _ _), (id q1).2.1.below (bl_one _ _), (id q1).2.2.1.below (bl_one _ _), (id q1).2.2.2.below (bl_one _ _)⟩
              replace HR := Lib.hid (HR.out.below (al_of (id q2).2.2.2 (bl_one _ _)))
              replace HNp0 := Lib.hid (HNp0.out.below (al_of (id q2).2.2.2 (bl_one _ _)))
              replace HNp1 := Lib.hid (HNp1.out.below (al_of (id q2).2.2.2 (bl_one _ _)))
              replace HNp2 := Lib.hid (HNp2.out.below (al_of (id q2).2.2.2 (bl_one _ _)))
              replace HNp3 := Lib.hid (HNp3.out.below (al_of (id q2).2.2.2 (bl_one _ _)))
              replace HNpd := Lib.hid (HNpd.out.below (al_of (id q2).2.2.2 (bl_one _ _)))
              have hgeHT := (id q1).2.2.2.sz
              have HT := Lib.hid ((id q1).2.2.2.var2 (.bool false) (.slice none 0 0) 123)
              clear hK K q1
              have q1 := q2
              clear q2
              try simp only [Act.put, x2, x3, x4, x5, x6, x7]
              revert HR
              revert HNp0
              revert HNp1
              revert HNp2
              revert HNp3
              revert HNpd
              revert HT
              revert q1
              generalize World.alloc _ _ = W2
              intro q1 HT HNpd HNp3 HNp2 HNp1 HNp0 HR
              refine r1 (i := 14) rfl (fun K hK => ?_)
              obtain ⟨k0, k1⟩ := HT.out.two
              obtain ⟨f0, f1⟩ := HT.out.free2
              go_simp
              refine hK.out _ _ ?_ (fun q2 => ?_)
              · exact ⟨(((id q1).1.far (by dsimp only; omega) _).far (by dsimp only; omega) _), (((id q1).2.1.far (by dsimp only; omega) _).far (by dsimp only; omega) _), (((id q1).2.2.1.far (by dsimp only; omega) _).far (by dsimp only; omega) _), (((id q1).2.2.2.set (by dsimp only; omega) _).set (by dsimp only; omega) _)⟩
              replace HR := Lib.hid ((id q2).2.2.2.far2 HR.out (by dsimp only; omega) (by dsimp only; omega))
              replace HNp0 := Lib.hid (HNp0.out.res HT.out (mpd) (.slice adpd npd cpd))
              replace HNp1 := Lib.hid (HNp1.out.res HT.out (mpd) (.slice adpd npd cpd))
              replace HNp2 := Lib.hid (HNp2.out.res HT.out (mpd) (.slice adpd npd cpd))
              replace HNp3 := Lib.hid (HNp3.out.res HT.out (mpd) (.slice adpd npd cpd))
              replace HNpd := Lib.hid (HNpd.out.res HT.out (mpd) (.slice adpd npd cpd))
              replace HT := Lib.hid (HT.out.set2 (.bool mpd) (.slice adpd npd cpd))
              clear hK K q1 k0 k1 f0 f1
              have q1 := q2
              clear q2
              try simp only [Act.put, x2, x3, x4, x5, x6, x7]
              refine wpAnyH_done (by kernel_rfl) ?_ _
              go_wp2_with fail
              go_meet
              case rel => exact ⟨_, _, _, _, _, rfl, by first | exact hgeHT | exact hge1, HT.out, HNpd.out, HR.out, id q1⟩
            · go_simp
              refine hK.out _ _ ?_ (fun q2 => ?_)
              · exact ⟨(id q1).1.below (bl_one _ _), (id q1).2.1.below (bl_one _ _), (id q1).2.2.1.below (bl_one _ _), (id q1).2.2.2.below (bl_one _ _)⟩
              replace HR := Lib.hid (HR.out.below (al_of (id q2).2.2.2 (bl_one _ _)))
              replace HNp0 := Lib.hid (HNp0.out.below (al_of (id q2).2.2.2 (bl_one _ _)))
              replace HNp1 := Lib.hid (HNp1.out.below (al_of (id q2).2.2.2 (bl_one _ _)))
              replace HNp2 := Lib.hid (HNp2.out.below (al_of (id q2).2.2.2 (bl_one _ _)))
              replace HNp3 := Lib.hid (HNp3.out.below (al_of (id q2).2.2.2 (bl_one _ _)))
              have hgeHT := (id q1).2.2.2.sz
              have HT := Lib.hid ((id q1).2.2.2.var2 (.bool false) (.slice none 0 0) 123)
              clear hK K q1
              have q1 := q2
              clear q2
              try simp only [Act.put, x2, x3, x4, x5, x6, x7]
              revert HR
              revert HNp0
              revert HNp1
              revert HNp2
              revert HNp3
              revert HT
              revert q1
              generalize World.alloc _ _ = W2
              intro q1 HT HNp3 HNp2 HNp1 HNp0 HR
              refine r1 (i := 12) rfl (fun K hK => ?_)
              go_simp
              go_at_call 116
              (with_reducible refine (det_n _ _ _ _ a.x a.y b.x b.y Za.out.1 Za.out.2 Zb.out.1 Zb.out.2 _ HNp0.out HNp1.out HNp2.out HNp3.out).mono ?_); rintro e w1 ⟨vpd, rfl, hNpd, hb1⟩
              obtain ⟨mpd, adpd, npd, cpd, rfl⟩ := hNpd.shape
              have HNpd := Lib.hid hNpd
              clear hNpd
              go_wp2_with fail
              refine hK.out _ _ ?_ (fun q2 => ?_)
              · exact ⟨(id q1).1.below hb1, (id q1).2.1.below hb1, (id q1).2.2.1.below hb1, (id q1).2.2.2.below hb1⟩
              replace HR := Lib.hid (HR.out.below hb1)
              replace HNp0 := Lib.hid (HNp0.out.below hb1)
              replace HNp1 := Lib.hid (HNp1.out.below hb1)
              replace HNp2 := Lib.hid (HNp2.out.below hb1)
              replace HNp3 := Lib.hid (HNp3.out.below hb1)
              replace HT := Lib.hid (HT.out.below hb1)
              clear hK K q1 hb1
              have q1 := q2
              clear q2
              try simp only [Act.put, x2, x3, x4, x5, x6, x7]
              refine r1 (i := 14) rfl (fun K hK => ?_)
              obtain ⟨k0, k1⟩ := HT.out.two
              obtain ⟨f0, f1⟩ := HT.out.free2
              go_simp
              refine hK.out _ _ ?_ (fun q2 => ?_)
              · exact ⟨(((id q1).1.far (by dsimp only; omega) _).far (by dsimp only; omega) _), (((id q1).2.1.far (by dsimp only; omega) _).far (by dsimp only; omega) _), (((id q1).2.2.1.far (by dsimp only; omega) _).far (by dsimp only; omega) _), (((id q1).2.2.2.set (by dsimp only; omega) _).set (by dsimp only; omega) _)⟩
              replace HR := Lib.hid ((id q2).2.2.2.far2 HR.out (by dsimp only; omega) (by dsimp only; omega))
              replace HNp0 := Lib.hid (HNp0.out.res HT.out (mpd) (.slice adpd npd cpd))
              replace HNp1 := Lib.hid (HNp1.out.res HT.out (mpd) (.slice adpd npd cpd))
              replace HNp2 := Lib.hid (HNp2.out.res HT.out (mpd) (.slice adpd npd cpd))
              replace HNp3 := Lib.hid (HNp3.out.res HT.out (mpd) (.slice adpd npd cpd))
              replace HNpd := Lib.hid (HNpd.out.res HT.out (mpd) (.slice adpd npd cpd))
              replace HT := Lib.hid (HT.out.set2 (.bool mpd) (.slice adpd npd cpd))
              clear hK K q1 k0 k1 f0 f1
              have q1 := q2
              clear q2
              try simp only [Act.put, x2, x3, x4, x5, x6, x7]
              refine wpAnyH_done (by kernel_rfl) ?_ _
              go_wp2_with fail
              go_meet
              case rel => exact ⟨_, _, _, _, _, rfl, by first | exact hgeHT | exact hge1, HT.out, HNpd.out, HR.out, id q1⟩
          · go_simp
            refine hK.out _ _ ?_ (fun q2 => ?_)
            · exact ⟨(id q1).1.below (bl_one _ _), (id q1).2.1.below (bl_one _ _), (id q1).2.2.1.below (bl_one _ _), (id q1).2.2.2.below (bl_one _ _)⟩
            replace HR := Lib.hid (HR.out.below (al_of (id q2).2.2.2 (bl_one _ _)))
            replace HNp0 := Lib.hid (HNp0.out.below (al_of (id q2).2.2.2 (bl_one _ _)))
            replace HNp1 := Lib.hid (HNp1.out.below (al_of (id q2).2.2.2 (bl_one _ _)))
            replace HNp2 := Lib.hid (HNp2.out.below (al_of (id q2).2.2.2 (bl_one _ _)))
            have hgeHT := (id q1).2.2.2.sz
            have HT := Lib.hid ((id q1).2.2.2.var2 (.bool false) (.slice none 0 0) 123)
            clear hK K q1
            have q1 := q2
            clear q2
            try simp only [Act.put, x2, x3, x4, x5, x6, x7]
            revert HR
            revert HNp0
            revert HNp1
            revert HNp2
            revert HT
            revert q1
            generalize World.alloc _ _ = W2
            intro q1 HT HNp2 HNp1 HNp0 HR
            refine r1 (i := 11) rfl (fun K hK => ?_)
            go_simp
            go_at_call 117
            (with_reducible refine (num_n b.y Rb.out.2 _).mono ?_); rintro e w1 ⟨vp3, rfl, hNp3, hb1⟩
            obtain ⟨mp3, adp3, np3, cp3, rfl⟩ := hNp3.shape
            have HNp3 := Lib.hid hNp3
            clear hNp3
            go_wp2_with fail
            refine hK.out _ _ ?_ (fun q2 => ?_)
            · exact ⟨(id q1).1.below hb1, (id q1).2.1.below hb1, (id q1).2.2.1.below hb1, (id q1).2.2.2.below hb1⟩
            replace HR := Lib.hid (HR.out.below hb1)
            replace HNp0 := Lib.hid (HNp0.out.below hb1)
            replace HNp1 := Lib.hid (HNp1.out.below hb1)
            replace HNp2 := Lib.hid (HNp2.out.below hb1)
            replace HT := Lib.hid (HT.out.below hb1)
            clear hK K q1 hb1
            have q1 := q2
            clear q2
            try simp only [Act.put, x2, x3, x4, x5, x6, x7]
            refine r1 (i := 12) rfl (fun K hK => ?_)
            go_simp
            go_at_call 116
            (with_reducible refine (det_n _ _ _ _ a.x a.y b.x b.y Za.out.1 Za.out.2 Zb.out.1 Zb.out.2 _ HNp0.out HNp1.out HNp2.out HNp3.out).mono ?_); rintro e w1 ⟨vpd, rfl, hNpd, hb1⟩
            obtain ⟨mpd, adpd, npd, cpd, rfl⟩ := hNpd.shape
            have HNpd := Lib.hid hNpd
            clear hNpd
            go_wp2_with fail
            refine hK.out _ _ ?_ (fun q2 => ?_)
            · exact ⟨(id q1).1.below hb1, (id q1).2.1.below hb1, (id q1).2.2.1.below hb1, (id q1).2.2.2.below hb1⟩
            replace HR := Lib.hid (HR.out.below hb1)
            replace HNp0 := Lib.hid (HNp0.out.below hb1)
            replace HNp1 := Lib.hid (HNp1.out.below hb1)
            replace HNp2 := Lib.hid (HNp2.out.below hb1)
            replace HT := Lib.hid (HT.out.below hb1)
            replace HNp3 := Lib.hid (HNp3.out.below hb1)
            clear hK K q1 hb1
            have q1 := q2
            clear q2
            try simp only [Act.put, x2, x3, x4, x5, x6, x7]
            refine r1 (i := 14) rfl (fun K hK => ?_)
            obtain ⟨k0, k1⟩ := HT.out.two
            obtain ⟨f0, f1⟩ := HT.out.free2
            go_simp
            refine hK.out _ _ ?_ (fun q2 => ?_)
            · exact ⟨(((id q1).1.far (by dsimp only; omega) _).far (by dsimp only; omega) _), (((id q1).2.1.far (by dsimp only; omega) _).far (by dsimp only; omega) _), (((id q1).2.2.1.far (by dsimp only; omega) _).far (by dsimp only; omega) _), (((id q1).2.2.2.set (by dsimp only; omega) _).set (by dsimp only; omega) _)⟩
            replace HR := Lib.hid ((id q2).2.2.2.far2 HR.out (by dsimp only; omega) (by dsimp only; omega))
            replace HNp0 := Lib.hid (HNp0.out.res HT.out (mpd) (.slice adpd npd cpd))
            replace HNp1 := Lib.hid (HNp1.out.res HT.out (mpd) (.slice adpd npd cpd))
            replace HNp2 := Lib.hid (HNp2.out.res HT.out (mpd) (.slice adpd npd cpd))
            replace HNp3 := Lib.hid (HNp3.out.res HT.out (mpd) (.slice adpd npd cpd))
            replace HNpd := Lib.hid (HNpd.out.res HT.out (mpd) (.slice adpd npd cpd))
            replace HT := Lib.hid (HT.out.set2 (.bool mpd) (.slice adpd npd cpd))
            clear hK K q1 k0 k1 f0 f1
            have q1 := q2
            clear q2
            try simp only [Act.put, x2, x3, x4, x5, x6, x7]
            refine wpAnyH_done (by kernel_rfl) ?_ _
            go_wp2_with fail
            go_meet
            case rel => exact ⟨_, _, _, _, _, rfl, by first | exact hgeHT | exact hge1, HT.out, HNpd.out, HR.out, id q1⟩
        · go_simp
          refine hK.out _ _ ?_ (fun q2 => ?_)
          · exact ⟨(id q1).1.below (bl_one _ _), (id q1).2.1.below (bl_one _ _), (id q1).2.2.1.below (bl_one _ _), (id q1).2.2.2.below (bl_one _ _)⟩
          replace HR := Lib.hid (HR.out.below (al_of (id q2).2.2.2 (bl_one _ _)))
          replace HNp0 := Lib.hid (HNp0.out.below (al_of (id q2).2.2.2 (bl_one _ _)))
          replace HNp1 := Lib.hid (HNp1.out.below (al_of (id q2).2.2.2 (bl_one _ _)))
          have hgeHT := (id q1).2.2.2.sz
          have HT := Lib.hid ((id q1).2.2.2.var2 (.bool false) (.slice none 0 0) 123)
          clear hK K q1
          have q1 := q2
          clear q2
          try simp only [Act.put, x2, x3, x4, x5, x6, x7]
          revert HR
          revert HNp0
          revert HNp1
          revert HT
          revert q1
          generalize World.alloc _ _ = W2
          intro q1 HT HNp1 HNp0 HR
          refine r1 (i := 8) rfl (fun K hK => ?_)
          go_simp
          go_at_call 117
          (with_reducible refine (num_n b.x Rb.out.1 _).mono ?_); rintro e w1 ⟨vp2, rfl, hNp2, hb1⟩
          obtain ⟨mp2, adp2, np2, cp2, rfl⟩ := hNp2.shape
          have HNp2 := Lib.hid hNp2
          clear hNp2
          go_wp2_with fail
          refine hK.out _ _ ?_ (fun q2 => ?_)
          · exact ⟨(id q1).1.below hb1, (id q1).2.1.below hb1, (id q1).2.2.1.below hb1, (id q1).2.2.2.below hb1⟩
          replace HR := Lib.hid (HR.out.below hb1)
          replace HNp0 := Lib.hid (HNp0.out.below hb1)
          replace HNp1 := Lib.hid (HNp1.out.below hb1)
          replace HT := Lib.hid (HT.out.below hb1)
          clear hK K q1 hb1
          have q1 := q2
          clear q2
          try simp only [Act.put, x2, x3, x4, x5, x6, x7]
          refine r1 (i := 11) rfl (fun K hK => ?_)
          go_simp
          go_at_call 117
          (with_reducible refine (num_n b.y Rb.out.2 _).mono ?_); rintro e w1 ⟨vp3, rfl, hNp3, hb1⟩
          obtain ⟨mp3, adp3, np3, cp3, rfl⟩ := hNp3.shape
          have HNp3 := Lib.hid hNp3
          clear hNp3
          go_wp2_with fail
          refine hK.out _ _ ?_ (fun q2 => ?_)
          · exact ⟨(id q1).1.below hb1, (id q1).2.1.below hb1, (id q1).2.2.1.below hb1, (id q1).2.2.2.below hb1⟩
          replace HR := Lib.hid (HR.out.below hb1)
          replace HNp0 := Lib.hid (HNp0.out.below hb1)
          replace HNp1 := Lib.hid (HNp1.out.below hb1)
          replace HT := Lib.hid (HT.out.below hb1)
          replace HNp2 := Lib.hid (HNp2.out.below hb1)
          clear hK K q1 hb1
          have q1 := q2
          clear q2
          try simp only [Act.put, x2, x3, x4, x5, x6, x7]
          refine r1 (i := 12) rfl (fun K hK => ?_)
          go_simp
          go_at_call 116
          (with_reducible refine (det_n _ _ _ _ a.x a.y b.x b.y Za.out.1 Za.out.2 Zb.out.1 Zb.out.2 _ HNp0.out HNp1.out HNp2.out HNp3.out).mono ?_); rintro e w1 ⟨vpd, rfl, hNpd, hb1⟩
          obtain ⟨mpd, adpd, npd, cpd, rfl⟩ := hNpd.shape
          have HNpd := Lib.hid hNpd
          clear hNpd
          go_wp2_with fail
          refine hK.out _ _ ?_ (fun q2 => ?_)
          · exact ⟨(id q1).1.below hb1, (id q1).2.1.below hb1, (id q1).2.2.1.below hb1, (id q1).2.2.2.below hb1⟩
          replace HR := Lib.hid (HR.out.below hb1)
          replace HNp0 := Lib.hid (HNp0.out.below hb1)
          replace HNp1 := Lib.hid (HNp1.out.below hb1)
          replace HT := Lib.hid (HT.out.below hb1)
          replace HNp2 := Lib.hid (HNp2.out.below hb1)
          replace HNp3 := Lib.hid (HNp3.out.below hb1)
          clear hK K q1 hb1
          have q1 := q2
          clear q2
          try simp only [Act.put, x2, x3, x4, x5, x6, x7]
          refine r1 (i := 14) rfl (fun K hK => ?_)
          obtain ⟨k0, k1⟩ := HT.out.two
          obtain ⟨f0, f1⟩ := HT.out.free2
          go_simp
          refine hK.out _ _ ?_ (fun q2 => ?_)
          · exact ⟨(((id q1).1.far (by dsimp only; omega) _).far (by dsimp only; omega) _), (((id q1).2.1.far (by dsimp only; omega) _).far (by dsimp only; omega) _), (((id q1).2.2.1.far (by dsimp only; omega) _).far (by dsimp only; omega) _), (((id q1).2.2.2.set (by dsimp only; omega) _).set (by dsimp only; omega) _)⟩
          replace HR := Lib.hid ((id q2).2.2.2.far2 HR.out (by dsimp only; omega) (by dsimp only; omega))
          replace HNp0 := Lib.hid (HNp0.out.res HT.out (mpd) (.slice adpd npd cpd))
          replace HNp1 := Lib.hid (HNp1.out.res HT.out (mpd) (.slice adpd npd cpd))
          replace HNp2 := Lib.hid (HNp2.out.res HT.out (mpd) (.slice adpd npd cpd))
          replace HNp3 := Lib.hid (HNp3.out.res HT.out (mpd) (.slice adpd npd cpd))
          replace HNpd := Lib.hid (HNpd.out.res HT.out (mpd) (.slice adpd npd cpd))
          replace HT := Lib.hid (HT.out.set2 (.bool mpd) (.slice adpd npd cpd))
          clear hK K q1 k0 k1 f0 f1
          have q1 := q2
          clear q2
          try simp only [Act.put, x2, x3, x4, x5, x6, x7]
          refine wpAnyH_done (by kernel_rfl) ?_ _
          go_wp2_with fail
          go_meet
          case rel => exact ⟨_, _, _, _, _, rfl, by first | exact hgeHT | exact hge1, HT.out, HNpd.out, HR.out, id q1⟩
      · go_simp
        refine hK.out _ _ ?_ (fun q2 => ?_)
        · exact ⟨(id q1).1.below (bl_one _ _), (id q1).2.1.below (bl_one _ _), (id q1).2.2.1.below (bl_one _ _), (id q1).2.2.2.below (bl_one _ _)⟩
        replace HR := Lib.hid (HR.out.below (al_of (id q2).2.2.2 (bl_one _ _)))
        replace HNp0 := Lib.hid (HNp0.out.below (al_of (id q2).2.2.2 (bl_one _ _)))
        have hgeHT := (id q1).2.2.2.sz
        have HT := Lib.hid ((id q1).2.2.2.var2 (.bool false) (.slice none 0 0) 123)
        clear hK K q1
        have q1 := q2
        clear q2
        try simp only [Act.put, x2, x3, x4, x5, x6, x7]
        revert HR
        revert HNp0
        revert HT
        revert q1
        generalize World.alloc _ _ = W2
        intro q1 HT HNp0 HR
        refine r1 (i := 5) rfl (fun K hK => ?_)
        go_simp
        go_at_call 117
        (with_reducible refine (num_n a.y Ra.out.2 _).mono ?_); rintro e w1 ⟨vp1, rfl, hNp1, hb1⟩
        obtain ⟨mp1, adp1, np1, cp1, rfl⟩ := hNp1.shape
        have HNp1 := Lib.hid hNp1
        clear hNp1
        go_wp2_with fail
        refine hK.out _ _ ?_ (fun q2 => ?_)
        · exact ⟨(id q1).1.below hb1, (id q1).2.1.below hb1, (id q1).2.2.1.below hb1, (id q1).2.2.2.below hb1⟩
        replace HR := Lib.hid (HR.out.below hb1)
        replace HNp0 := Lib.hid (HNp0.out.below hb1)
        replace HT := Lib.hid (HT.out.below hb1)
        clear hK K q1 hb1
        have q1 := q2
        clear q2
        try simp only [Act.put, x2, x3, x4, x5, x6, x7]
        refine r1 (i := 8) rfl (fun K hK => ?_)
        go_simp
        go_at_call 117
        (with_reducible refine (num_n b.x Rb.out.1 _).mono ?_); rintro e w1 ⟨vp2, rfl, hNp2, hb1⟩
        obtain ⟨mp2, adp2, np2, cp2, rfl⟩ := hNp2.shape
        have HNp2 := Lib.hid hNp2
        clear hNp2
        go_wp2_with fail
        refine hK.out _ _ ?_ (fun q2 => ?_)
        · exact ⟨(id q1).1.below hb1, (id q1).2.1.below hb1, (id q1).2.2.1.below hb1, (id q1).2.2.2.below hb1⟩
        replace HR := Lib.hid (HR.out.below hb1)
        replace HNp0 := Lib.hid (HNp0.out.below hb1)
        replace HT := Lib.hid (HT.out.below hb1)
        replace HNp1 := Lib.hid (HNp1.out.below hb1)
        clear hK K q1 hb1
        have q1 := q2
        clear q2
        try simp only [Act.put, x2, x3, x4, x5, x6, x7]
        refine r1 (i := 11) rfl (fun K hK => ?_)
        go_simp
        go_at_call 117
        (with_reducible refine (num_n b.y Rb.out.2 _).mono ?_); rintro e w1 ⟨vp3, rfl, hNp3, hb1⟩
        obtain ⟨mp3, adp3, np3, cp3, rfl⟩ := hNp3.shape
        have HNp3 := Lib.hid hNp3
        clear hNp3
        go_wp2_with fail
        refine hK.out _ _ ?_ (fun q2 => ?_)
        · exact ⟨(id q1).1.below hb1, (id q1).2.1.below hb1, (id q1).2.2.1.below hb1, (id q1).2.2.2.below hb1⟩
        replace HR := Lib.hid (HR.out.below hb1)
        replace HNp0 := Lib.hid (HNp0.out.below hb1)
        replace HT := Lib.hid (HT.out.below hb1)
        replace HNp1 := Lib.hid (HNp1.out.below hb1)
        replace HNp2 := Lib.hid (HNp2.out.below hb1)
        clear hK K q1 hb1
        have q1 := q2
        clear q2
        try simp only [Act.put, x2, x3, x4, x5, x6, x7]
        refine r1 (i := 12) rfl (fun K hK => ?_)
        go_simp
        go_at_call 116
        (with_reducible refine (det_n _ _ _ _ a.x a.y b.x b.y Za.out.1 Za.out.2 Zb.out.1 Zb.out.2 _ HNp0.out HNp1.out HNp2.out HNp3.out).mono ?_); rintro e w1 ⟨vpd, rfl, hNpd, hb1⟩
        obtain ⟨mpd, adpd, npd, cpd, rfl⟩ := hNpd.shape
        have HNpd := Lib.hid hNpd
        clear hNpd
        go_wp2_with fail
        refine hK.out _ _ ?_ (fun q2 => ?_)
        · exact ⟨(id q1).1.below hb1, (id q1).2.1.below hb1, (id q1).2.2.1.below hb1, (id q1).2.2.2.below hb1⟩
        replace HR := Lib.hid (HR.out.below hb1)
        replace HNp0 := Lib.hid (HNp0.out.below hb1)
        replace HT := Lib.hid (HT.out.below hb1)
        replace HNp1 := Lib.hid (HNp1.out.below hb1)
        replace HNp2 := Lib.hid (HNp2.out.below hb1)
        replace HNp3 := Lib.hid (HNp3.out.below hb1)
        clear hK K q1 hb1
        have q1 := q2
        clear q2
        try simp only [Act.put, x2, x3, x4, x5, x6, x7]
        refine r1 (i := 14) rfl (fun K hK => ?_)
        obtain ⟨k0, k1⟩ := HT.out.two
        obtain ⟨f0, f1⟩ := HT.out.free2
        go_simp
        refine hK.out _ _ ?_ (fun q2 => ?_)
        · exact ⟨(((id q1).1.far (by dsimp only; omega) _).far (by dsimp only; omega) _), (((id q1).2.1.far (by dsimp only; omega) _).far (by dsimp only; omega) _), (((id q1).2.2.1.far (by dsimp only; omega) _).far (by dsimp only; omega) _), (((id q1).2.2.2.set (by dsimp only; omega) _).set (by dsimp only; omega) _)⟩
        replace HR := Lib.hid ((id q2).2.2.2.far2 HR.out (by dsimp only; omega) (by dsimp only; omega))
        replace HNp0 := Lib.hid (HNp0.out.res HT.out (mpd) (.slice adpd npd cpd))
        replace HNp1 := Lib.hid (HNp1.out.res HT.out (mpd) (.slice adpd npd cpd))
        replace HNp2 := Lib.hid (HNp2.out.res HT.out (mpd) (.slice adpd npd cpd))
        replace HNp3 := Lib.hid (HNp3.out.res HT.out (mpd) (.slice adpd npd cpd))
        replace HNpd := Lib.hid (HNpd.out.res HT.out (mpd) (.slice adpd npd cpd))
        replace HT := Lib.hid (HT.out.set2 (.bool mpd) (.slice adpd npd cpd))
        clear hK K q1 k0 k1 f0 f1
        have q1 := q2
        clear q2
        try simp only [Act.put, x2, x3, x4, x5, x6, x7]
        refine wpAnyH_done (by kernel_rfl) ?_ _
        go_wp2_with fail
        go_meet
        case rel => exact ⟨_, _, _, _, _, rfl, by first | exact hgeHT | exact hge1, HT.out, HNpd.out, HR.out, id q1⟩
    · go_simp
      refine hK.out _ _ ?_ (fun q2 => ?_)
      · exact ⟨(id q1).1.below (bl_one _ _), (id q1).2.1.below (bl_one _ _), (id q1).2.2.1.below (bl_one _ _), (id q1).2.2.2.below (bl_one _ _)⟩
      replace HR := Lib.hid (HR.out.below (al_of (id q2).2.2.2 (bl_one _ _)))
      have hgeHT := (id q1).2.2.2.sz
      have HT := Lib.hid ((id q1).2.2.2.var2 (.bool false) (.slice none 0 0) 123)
      clear hK K q1
      have q1 := q2
      clear q2
      try simp only [Act.put, x2, x3, x4, x5, x6, x7]
      revert HR
      revert HT
      revert q1
      generalize World.alloc _ _ = W2
      intro q1 HT HR
      refine r1 (i := 2) rfl (fun K hK => ?_)
      go_simp
      go_at_call 117
      (with_reducible refine (num_n a.x Ra.out.1 _).mono ?_); rintro e w1 ⟨vp0, rfl, hNp0, hb1⟩
      obtain ⟨mp0, adp0, np0, cp0, rfl⟩ := hNp0.shape
      have HNp0 := Lib.hid hNp0
      clear hNp0
      go_wp2_with fail
      refine hK.out _ _ ?_ (fun q2 => ?_)
      · exact ⟨(id q1).1.below hb1, (id q1).2.1.below hb1, (id q1).2.2.1.below hb1, (id q1).2.2.2.below hb1⟩
      replace HR := Lib.hid (HR.out.below hb1)
      replace HT := Lib.hid (HT.out.below hb1)
      clear hK K q1 hb1
      have q1 := q2
      clear q2
      try simp only [Act.put, x2, x3, x4, x5, x6, x7]
      refine r1 (i := 5) rfl (fun K hK => ?_)
      go_simp
      go_at_call 117
      (with_reducible refine (num_n a.y Ra.out.2 _).mono ?_); rintro e w1 ⟨vp1, rfl, hNp1, hb1⟩
      obtain ⟨mp1, adp1, np1, cp1, rfl⟩ := hNp1.shape
      have HNp1 := Lib.hid hNp1
      clear hNp1
      go_wp2_with fail
      refine hK.out _ _ ?_ (fun q2 => ?_)
      · exact ⟨(id q1).1.below hb1, (id q1).2.1.below hb1, (id q1).2.2.1.below hb1, (id q1).2.2.2.below hb1⟩
      replace HR := Lib.hid (HR.out.below hb1)
      replace HT := Lib.hid (HT.out.below hb1)
      replace HNp0 := Lib.hid (HNp0.out.below hb1)
      clear hK K q1 hb1
      have q1 := q2
      clear q2
      try simp only [Act.put, x2, x3, x4, x5, x6, x7]
      refine r1 (i := 8) rfl (fun K hK => ?_)
      go_simp
      go_at_call 117
      (with_reducible refine (num_n b.x Rb.out.1 _).mono ?_); rintro e w1 ⟨vp2, rfl, hNp2, hb1⟩
      obtain ⟨mp2, adp2, np2, cp2, rfl⟩ := hNp2.shape
      have HNp2 := Lib.hid hNp2
      clear hNp2
      go_wp2_with fail
      refine hK.out _ _ ?_ (fun q2 => ?_)
      · exact ⟨(id q1).1.below hb1, (id q1).2.1.below hb1, (id q1).2.2.1.below hb1, (id q1).2.2.2.below hb1⟩
      replace HR := Lib.hid (HR.out.below hb1)
      replace HT := Lib.hid (HT.out.below hb1)
      replace HNp0 := Lib.hid (HNp0.out.below hb1)
      replace HNp1 := Lib.hid (HNp1.out.below hb1)
      clear hK K q1 hb1
      have q1 := q2
      clear q2
      try simp only [Act.put, x2, x3, x4, x5, x6, x7]
      refine r1 (i := 11) rfl (fun K hK => ?_)
      go_simp
      go_at_call 117
      (with_reducible refine (num_n b.y Rb.out.2 _).mono ?_); rintro e w1 ⟨vp3, rfl, hNp3, hb1⟩
      obtain ⟨mp3, adp3, np3, cp3, rfl⟩ := hNp3.shape
      have HNp3 := Lib.hid hNp3
      clear hNp3
      go_wp2_with fail
      refine hK.out _ _ ?_ (fun q2 => ?_)
      · exact ⟨(id q1).1.below hb1, (id q1).2.1.below hb1, (id q1).2.2.1.below hb1, (id q1).2.2.2.below hb1⟩
      replace HR := Lib.hid (HR.out.below hb1)
      replace HT := Lib.hid (HT.out.below hb1)
      replace HNp0 := Lib.hid (HNp0.out.below hb1)
      replace HNp1 := Lib.hid (HNp1.out.below hb1)
      replace HNp2 := Lib.hid (HNp2.out.below hb1)
      clear hK K q1 hb1
      have q1 := q2
      clear q2
      try simp only [Act.put, x2, x3, x4, x5, x6, x7]
      refine r1 (i := 12) rfl (fun K hK => ?_)
      go_simp
      go_at_call 116
      (with_reducible refine (det_n _ _ _ _ a.x a.y b.x b.y Za.out.1 Za.out.2 Zb.out.1 Zb.out.2 _ HNp0.out HNp1.out HNp2.out HNp3.out).mono ?_); rintro e w1 ⟨vpd, rfl, hNpd, hb1⟩
      obtain ⟨mpd, adpd, npd, cpd, rfl⟩ := hNpd.shape
      have HNpd := Lib.hid hNpd
      clear hNpd
      go_wp2_with fail
      refine hK.out _ _ ?_ (fun q2 => ?_)
      · exact ⟨(id q1).1.below hb1, (id q1).2.1.below hb1, (id q1).2.2.1.below hb1, (id q1).2.2.2.below hb1⟩
      replace HR := Lib.hid (HR.out.below hb1)
      replace HT := Lib.hid (HT.out.below hb1)
      replace HNp0 := Lib.hid (HNp0.out.below hb1)
      replace HNp1 := Lib.hid (HNp1.out.below hb1)
      replace HNp2 := Lib.hid (HNp2.out.below hb1)
      replace HNp3 := Lib.hid (HNp3.out.below hb1)
      clear hK K q1 hb1
      have q1 := q2
      clear q2
      try simp only [Act.put, x2, x3, x4, x5, x6, x7]
      refine r1 (i := 14) rfl (fun K hK => ?_)
      obtain ⟨k0, k1⟩ := HT.out.two
      obtain ⟨f0, f1⟩ := HT.out.free2
      go_simp
      refine hK.out _ _ ?_ (fun q2 => ?_)
      · exact ⟨(((id q1).1.far (by dsimp only; omega) _).far (by dsimp only; omega) _), (((id q1).2.1.far (by dsimp only; omega) _).far (by dsimp only; omega) _), (((id q1).2.2.1.far (by dsimp only; omega) _).far (by dsimp only; omega) _), (((id q1).2.2.2.set (by dsimp only; omega) _).set (by dsimp only; omega) _)⟩
      replace HR := Lib.hid ((id q2).2.2.2.far2 HR.out (by dsimp only; omega) (by dsimp only; omega))
      replace HNp0 := Lib.hid (HNp0.out.res HT.out (mpd) (.slice adpd npd cpd))
      replace HNp1 := Lib.hid (HNp1.out.res HT.out (mpd) (.slice adpd npd cpd))
      replace HNp2 := Lib.hid (HNp2.out.res HT.out (mpd) (.slice adpd npd cpd))
      replace HNp3 := Lib.hid (HNp3.out.res HT.out (mpd) (.slice adpd npd cpd))
      replace HNpd := Lib.hid (HNpd.out.res HT.out (mpd) (.slice adpd npd cpd))
      replace HT := Lib.hid (HT.out.set2 (.bool mpd) (.slice adpd npd cpd))
      clear hK K q1 k0 k1 f0 f1
      have q1 := q2
      clear q2
      try simp only [Act.put, x2, x3, x4, x5, x6, x7]
      refine wpAnyH_done (by kernel_rfl) ?_ _
      go_wp2_with fail
      go_meet
      case rel => exact ⟨_, _, _, _, _, rfl, by first | exact hgeHT | exact hge1, HT.out, HNpd.out, HR.out, id q1⟩
  case rest =>
  obtain ⟨g1, m1, ad1, n1, c1, rfl, hge1, hT, hN, hr, hS0⟩ := hcut
  replace HS0 := Lib.hid hS0
  replace HR := Lib.hid hr
  have HT := Lib.hid hT
  have HN1 := Lib.hid hN
  clear hS0 hr hT hN
  go_upto_region 2 with (fail)
  go_cut [7] (fun x W => ∃ g mm am nm cm, x = .pointer (some ⟨g, 0, none⟩) ∧ w.heap.size + 4 ≤ g ∧ Var W g [.bool mm, .slice am nm cm] ∧ NumIs (.agg #[.bool mm, .slice am nm cm]) (a.x * b.y - a.y * b.x + (b.x * c.y - b.y * c.x)) W ∧ Var W (w.heap.size + 1 + 1 + 1) [.bool false, .slice none 0 0] ∧ (fun W => Var W (w.heap.size) [.int .i64 a.x, .int .i64 a.y] ∧ Var W (w.heap.size + 1) [.int .i64 b.x, .int .i64 b.y] ∧ Var W (w.heap.size + 1 + 1) [.int .i64 c.x, .int .i64 c.y] ∧ Grew w 4 W) W)
  case first =>
    refine wp_region_held_drew (S := fun W => Var W (w.heap.size) [.int .i64 a.x, .int .i64 a.y] ∧ Var W (w.heap.size + 1) [.int .i64 b.x, .int .i64 b.y] ∧ Var W (w.heap.size + 1 + 1) [.int .i64 c.x, .int .i64 c.y] ∧ Grew w 4 W) (by kernel_rfl) ?_ (fun q1 => ?_)
    · exact ⟨HS0.out.1.below (bel_drew _), HS0.out.2.1.below (bel_drew _), HS0.out.2.2.1.below (bel_drew _), HS0.out.2.2.2.below (bel_drew _)⟩
    replace HR := Lib.hid (HR.out.below (bel_drew _))
    replace HT := Lib.hid (HT.out.below (bel_drew _))
    replace HN1 := Lib.hid (HN1.out.below (bel_drew _))
    revert HR
    revert HT
    revert HN1
    revert q1
    generalize World.drew _ = W1
    intro q1 HN1 HT HR
    refine tk (i := 1) (v := ?_) rfl (Or.inl ⟨by rfl, ?_⟩) ?_
    rotate_left
    · intro Wq hSw
      clear hSw
      go_simp
      all_goals (with_reducible rfl)
    try simp only [Act.put, x2, x3, x4, x5, x6, x7]
    refine tk (i := 2) (v := ?_) rfl (Or.inl ⟨by rfl, ?_⟩) ?_
    rotate_left
    · intro Wq hSw
      obtain ⟨k0, k1⟩ := (id hSw).2.1.two
      clear hSw
      go_simp
      all_goals (with_reducible rfl)
    try simp only [Act.put, x2, x3, x4, x5, x6, x7]
    refine tk (i := 4) (v := ?_) rfl (Or.inl ⟨by rfl, ?_⟩) ?_
    rotate_left
    · intro Wq hSw
      clear hSw
      go_simp
      all_goals (with_reducible rfl)
    try simp only [Act.put, x2, x3, x4, x5, x6, x7]
    refine tk (i := 5) (v := ?_) rfl (Or.inl ⟨by rfl, ?_⟩) ?_
    rotate_left
    · intro Wq hSw
      obtain ⟨k0, k1⟩ := (id hSw).2.1.two
      clear hSw
      go_simp
      all_goals (with_reducible rfl)
    try simp only [Act.put, x2, x3, x4, x5, x6, x7]
    refine tk (i := 7) (v := ?_) rfl (Or.inl ⟨by rfl, ?_⟩) ?_
    rotate_left
    · intro Wq hSw
      clear hSw
      go_simp
      all_goals (with_reducible rfl)
    try simp only [Act.put, x2, x3, x4, x5, x6, x7]
    refine tk (i := 8) (v := ?_) rfl (Or.inl ⟨by rfl, ?_⟩) ?_
    rotate_left
    · intro Wq hSw
      obtain ⟨k0, k1⟩ := (id hSw).2.2.1.two
      clear hSw
      go_simp
      all_goals (with_reducible rfl)
    try simp only [Act.put, x2, x3, x4, x5, x6, x7]
    refine tk (i := 10) (v := ?_) rfl (Or.inl ⟨by rfl, ?_⟩) ?_
    rotate_left
    · intro Wq hSw
      clear hSw
      go_simp
      all_goals (with_reducible rfl)
    try simp only [Act.put, x2, x3, x4, x5, x6, x7]
    refine tk (i := 11) (v := ?_) rfl (Or.inl ⟨by rfl, ?_⟩) ?_
    rotate_left
    · intro Wq hSw
      obtain ⟨k0, k1⟩ := (id hSw).2.2.1.two
      clear hSw
      go_simp
      all_goals (with_reducible rfl)
    try simp only [Act.put, x2, x3, x4, x5, x6, x7]
    refine r2 (i := 0) (j := 3) rfl (fun K hK => ?_) rfl (fun K hK => ?_)
    · obtain ⟨k0, k1⟩ := HT.out.two
      go_simp
      refine hK.out _ _ ?_ (fun q2 => ?_)
      · exact q1
      clear hK K q1 k0 k1
      have q1 := q2
      clear q2
      try simp only [Act.put, x2, x3, x4, x5, x6, x7]
      refine r1 (i := 3) rfl (fun K hK => ?_)
      go_simp
      go_at_call 117
      (with_reducible refine (num_n b.x Rb.out.1 _).mono ?_); rintro e w1 ⟨vq0, rfl, hNq0, hb1⟩
      obtain ⟨mq0, adq0, nq0, cq0, rfl⟩ := hNq0.shape
      have HNq0 := Lib.hid hNq0
      clear hNq0
      go_wp2_with fail
      refine hK.out _ _ ?_ (fun q2 => ?_)
      · exact ⟨(id q1).1.below hb1, (id q1).2.1.below hb1, (id q1).2.2.1.below hb1, (id q1).2.2.2.below hb1⟩
      replace HR := Lib.hid (HR.out.below hb1)
      replace HT := Lib.hid (HT.out.below hb1)
      replace HN1 := Lib.hid (HN1.out.below hb1)
      clear hK K q1 hb1
      have q1 := q2
      clear q2
      try simp only [Act.put, x2, x3, x4, x5, x6, x7]
      refine r1 (i := 6) rfl (fun K hK => ?_)
      go_simp
      go_at_call 117
      (with_reducible refine (num_n b.y Rb.out.2 _).mono ?_); rintro e w1 ⟨vq1, rfl, hNq1, hb1⟩
      obtain ⟨mq1, adq1, nq1, cq1, rfl⟩ := hNq1.shape
      have HNq1 := Lib.hid hNq1
      clear hNq1
      go_wp2_with fail
      refine hK.out _ _ ?_ (fun q2 => ?_)
      · exact ⟨(id q1).1.below hb1, (id q1).2.1.below hb1, (id q1).2.2.1.below hb1, (id q1).2.2.2.below hb1⟩
      replace HR := Lib.hid (HR.out.below hb1)
      replace HT := Lib.hid (HT.out.below hb1)
      replace HN1 := Lib.hid (HN1.out.below hb1)
      replace HNq0 := Lib.hid (HNq0.out.below hb1)
      clear hK K q1 hb1
      have q1 := q2
      clear q2
      try simp only [Act.put, x2, x3, x4, x5, x6, x7]
      refine r1 (i := 9) rfl (fun K hK => ?_)
      go_simp
      go_at_call 117
      (with_reducible refine (num_n c.x Rc.out.1 _).mono ?_); rintro e w1 ⟨vq2, rfl, hNq2, hb1⟩
      obtain ⟨mq2, adq2, nq2, cq2, rfl⟩ := hNq2.shape
      have HNq2 := Lib.hid hNq2
      clear hNq2
      go_wp2_with fail
      refine hK.out _ _ ?_ (fun q2 => ?_)
      · exact ⟨(id q1).1.below hb1, (id q1).2.1.below hb1, (id q1).2.2.1.below hb1, (id q1).2.2.2.below hb1⟩
      replace HR := Lib.hid (HR.out.below hb1)
      replace HT := Lib.hid (HT.out.below hb1)
      replace HN1 := Lib.hid (HN1.out.below hb1)
      replace HNq0 := Lib.hid (HNq0.out.below hb1)
      replace HNq1 := Lib.hid (HNq1.out.below hb1)
      clear hK K q1 hb1
      have q1 := q2
      clear q2
      try simp only [Act.put, x2, x3, x4, x5, x6, x7]
      refine r1 (i := 12) rfl (fun K hK => ?_)
      go_simp
      go_at_call 117
      (with_reducible refine (num_n c.y Rc.out.2 _).mono ?_); rintro e w1 ⟨vq3, rfl, hNq3, hb1⟩
      obtain ⟨mq3, adq3, nq3, cq3, rfl⟩ := hNq3.shape
      have HNq3 := Lib.hid hNq3
      clear hNq3
      go_wp2_with fail
      refine hK.out _ _ ?_ (fun q2 => ?_)
      · exact ⟨(id q1).1.below hb1, (id q1).2.1.below hb1, (id q1).2.2.1.below hb1, (id q1).2.2.2.below hb1⟩
      replace HR := Lib.hid (HR.out.below hb1)
      replace HT := Lib.hid (HT.out.below hb1)
      replace HN1 := Lib.hid (HN1.out.below hb1)
      replace HNq0 := Lib.hid (HNq0.out.below hb1)
      replace HNq1 := Lib.hid (HNq1.out.below hb1)
      replace HNq2 := Lib.hid (HNq2.out.below hb1)
      clear hK K q1 hb1
      have q1 := q2
      clear q2
      try simp only [Act.put, x2, x3, x4, x5, x6, x7]
      refine r1 (i := 13) rfl (fun K hK => ?_)
      go_simp
      go_at_call 116
      (with_reducible refine (det_n _ _ _ _ b.x b.y c.x c.y Zb.out.1 Zb.out.2 Zc.out.1 Zc.out.2 _ HNq0.out HNq1.out HNq2.out HNq3.out).mono ?_); rintro e w1 ⟨vqd, rfl, hNqd, hb1⟩
      obtain ⟨mqd, adqd, nqd, cqd, rfl⟩ := hNqd.shape
      have HNqd := Lib.hid hNqd
      clear hNqd
      go_wp2_with fail
      refine hK.out _ _ ?_ (fun q2 => ?_)
      · exact ⟨(id q1).1.below hb1, (id q1).2.1.below hb1, (id q1).2.2.1.below hb1, (id q1).2.2.2.below hb1⟩
      replace HR := Lib.hid (HR.out.below hb1)
      replace HT := Lib.hid (HT.out.below hb1)
      replace HN1 := Lib.hid (HN1.out.below hb1)
      replace HNq0 := Lib.hid (HNq0.out.below hb1)
      replace HNq1 := Lib.hid (HNq1.out.below hb1)
      replace HNq2 := Lib.hid (HNq2.out.below hb1)
      replace HNq3 := Lib.hid (HNq3.out.below hb1)
      clear hK K q1 hb1
      have q1 := q2
      clear q2
      try simp only [Act.put, x2, x3, x4, x5, x6, x7]
      refine r1 (i := 14) rfl (fun K hK => ?_)
      go_simp
      go_at_call 96
      (with_reducible refine (plus_c _ _ (a.x * b.y - a.y * b.x) (b.x * c.y - b.y * c.x) _ HN1.out HNqd.out D0.out D1.out).mono ?_); rintro e w1 ⟨vqs, rfl, hNqs, hb1⟩
      obtain ⟨mqs, adqs, nqs, cqs, rfl⟩ := hNqs.shape
      have HNqs := Lib.hid hNqs
      clear hNqs
      go_wp2_with fail
      refine hK.out _ _ ?_ (fun q2 => ?_)
      · exact ⟨(id q1).1.below hb1, (id q1).2.1.below hb1, (id q1).2.2.1.below hb1, (id q1).2.2.2.below hb1⟩
      replace HR := Lib.hid (HR.out.below hb1)
      replace HT := Lib.hid (HT.out.below hb1)
      replace HN1 := Lib.hid (HN1.out.below hb1)
      replace HNq0 := Lib.hid (HNq0.out.below hb1)
      replace HNq1 := Lib.hid (HNq1.out.below hb1)
      replace HNq2 := Lib.hid (HNq2.out.below hb1)
      replace HNq3 := Lib.hid (HNq3.out.below hb1)
      replace HNqd := Lib.hid (HNqd.out.below hb1)
      clear hK K q1 hb1
      have q1 := q2
      clear q2
      try simp only [Act.put, x2, x3, x4, x5, x6, x7]
      refine r1 (i := 15) rfl (fun K hK => ?_)
      obtain ⟨k0, k1⟩ := HT.out.two
      obtain ⟨f0, f1⟩ := HT.out.free2
      go_simp
      refine hK.out _ _ ?_ (fun q2 => ?_)
      · exact ⟨(((id q1).1.far (by dsimp only; omega) _).far (by dsimp only; omega) _), (((id q1).2.1.far (by dsimp only; omega) _).far (by dsimp only; omega) _), (((id q1).2.2.1.far (by dsimp only; omega) _).far (by dsimp only; omega) _), (((id q1).2.2.2.set (by dsimp only; omega) _).set (by dsimp only; omega) _)⟩
      replace HR := Lib.hid ((id q2).2.2.2.far2 HR.out (by dsimp only; omega) (by dsimp only; omega))
      replace HN1 := Lib.hid (HN1.out.res HT.out (mqs) (.slice adqs nqs cqs))
      replace HNq0 := Lib.hid (HNq0.out.res HT.out (mqs) (.slice adqs nqs cqs))
      replace HNq1 := Lib.hid (HNq1.out.res HT.out (mqs) (.slice adqs nqs cqs))
      replace HNq2 := Lib.hid (HNq2.out.res HT.out (mqs) (.slice adqs nqs cqs))
      replace HNq3 := Lib.hid (HNq3.out.res HT.out (mqs) (.slice adqs nqs cqs))
      replace HNqd := Lib.hid (HNqd.out.res HT.out (mqs) (.slice adqs nqs cqs))
      replace HNqs := Lib.hid (HNqs.out.res HT.out (mqs) (.slice adqs nqs cqs))
      replace HT := Lib.hid (HT.out.set2 (.bool mqs) (.slice adqs nqs cqs))
      clear hK K q1 k0 k1 f0 f1
      have q1 := q2
      clear q2
      try simp only [Act.put, x2, x3, x4, x5, x6, x7]
      refine wpAnyH_done (by kernel_rfl) ?_ _
      go_wp2_with fail
      go_meet
      case rel => exact ⟨_, _, _, _, _, rfl, by first | exact hgeHT | exact hge1, HT.out, HNqs.out, HR.out, id q1⟩
    · go_simp
      go_at_call 117
      (with_reducible refine (num_n b.x Rb.out.1 _).mono ?_); rintro e w1 ⟨vq0, rfl, hNq0, hb1⟩
      obtain ⟨mq0, adq0, nq0, cq0, rfl⟩ := hNq0.shape
      have HNq0 := Lib.hid hNq0
      clear hNq0
      go_wp2_with fail
      refine hK.out _ _ ?_ (fun q2 => ?_)
      · exact ⟨(id q1).1.below hb1, (id q1).2.1.below hb1, (id q1).2.2.1.below hb1, (id q1).2.2.2.below hb1⟩
      replace HR := Lib.hid (HR.out.below hb1)
      replace HT := Lib.hid (HT.out.below hb1)
      replace HN1 := Lib.hid (HN1.out.below hb1)
      clear hK K q1 hb1
      have q1 := q2
      clear q2
      try simp only [Act.put, x2, x3, x4, x5, x6, x7]
      refine r2 (i := 0) (j := 6) rfl (fun K hK => ?_) rfl (fun K hK => ?_)
      · obtain ⟨k0, k1⟩ := HT.out.two
        go_simp
        refine hK.out _ _ ?_ (fun q2 => ?_)
        · exact q1
        clear hK K q1 k0 k1
        have q1 := q2
        clear q2
        try simp only [Act.put, x2, x3, x4, x5, x6, x7]
        refine r1 (i := 6) rfl (fun K hK => ?_)
        go_simp
        go_at_call 117
        (with_reducible refine (num_n b.y Rb.out.2 _).mono ?_); rintro e w1 ⟨vq1, rfl, hNq1, hb1⟩
        obtain ⟨mq1, adq1, nq1, cq1, rfl⟩ := hNq1.shape
        have HNq1 := Lib.hid hNq1
        clear hNq1
        go_wp2_with fail
        refine hK.out _ _ ?_ (fun q2 => ?_)
        · exact ⟨(id q1).1.below hb1, (id q1).2.1.below hb1, (id q1).2.2.1.below hb1, (id q1).2.2.2.below hb1⟩
        replace HR := Lib.hid (HR.out.below hb1)
        replace HT := Lib.hid (HT.out.below hb1)
        replace HN1 := Lib.hid (HN1.out.below hb1)
        replace HNq0 := Lib.hid (HNq0.out.below hb1)
        clear hK K q1 hb1
        have q1 := q2
        clear q2
        try simp only [Act.put, x2, x3, x4, x5, x6, x7]
        refine r1 (i := 9) rfl (fun K hK => ?_)
        go_simp
        go_at_call 117
        (with_reducible refine (num_n c.x Rc.out.1 _).mono ?_); rintro e w1 ⟨vq2, rfl, hNq2, hb1⟩
        obtain ⟨mq2, adq2, nq2, cq2, rfl⟩ := hNq2.shape
        have HNq2 := Lib.hid hNq2
        clear hNq2
        go_wp2_with fail
        refine hK.out _ _ ?_ (fun q2 => ?_)
        · exact ⟨(id q1).1.below hb1, (id q1).2.1.below hb1, (id q1).2.2.1.below hb1, (id q1).2.2.2.below hb1⟩
        replace HR := Lib.hid (HR.out.below hb1)
        replace HT := Lib.hid (HT.out.below hb1)
        replace HN1 := Lib.hid (HN1.out.below hb1)
        replace HNq0 := Lib.hid (HNq0.out.below hb1)
        replace HNq1 := Lib.hid (HNq1.out.below hb1)
        clear hK K q1 hb1
        have q1 := q2
        clear q2
        try simp only [Act.put, x2, x3, x4, x5, x6, x7]
        refine r1 (i := 12) rfl (fun K hK => ?_)
        go_simp
        go_at_call 117
        (with_reducible refine (num_n c.y Rc.out.2 _).mono ?_); rintro e w1 ⟨vq3, rfl, hNq3, hb1⟩
        obtain ⟨mq3, adq3, nq3, cq3, rfl⟩ := hNq3.shape
        have HNq3 := Lib.hid hNq3
        clear hNq3
        go_wp2_with fail
        refine hK.out _ _ ?_ (fun q2 => ?_)
        · exact ⟨(id q1).1.below hb1, (id q1).2.1.below hb1, (id q1).2.2.1.below hb1, (id q1).2.2.2.below hb1⟩
        replace HR := Lib.hid (HR.out.below hb1)
        replace HT := Lib.hid (HT.out.below hb1)
        replace HN1 := Lib.hid (HN1.out.below hb1)
        replace HNq0 := Lib.hid (HNq0.out.below hb1)
        replace HNq1 := Lib.hid (HNq1.out.below hb1)
        replace HNq2 := Lib.hid (HNq2.out.below hb1)
        clear hK K q1 hb1
        have q1 := q2
        clear q2
        try simp only [Act.put, x2, x3, x4, x5, x6, x7]
        refine r1 (i := 13) rfl (fun K hK => ?_)
        go_simp
        go_at_call 116
        (with_reducible refine (det_n _ _ _ _ b.x b.y c.x c.y Zb.out.1 Zb.out.2 Zc.out.1 Zc.out.2 _ HNq0.out HNq1.out HNq2.out HNq3.out).mono ?_); rintro e w1 ⟨vqd, rfl, hNqd, hb1⟩
        obtain ⟨mqd, adqd, nqd, cqd, rfl⟩ := hNqd.shape
        have HNqd := Lib.hid hNqd
        clear hNqd
        go_wp2_with fail
        refine hK.out _ _ ?_ (fun q2 => ?_)
        · exact ⟨(id q1).1.below hb1, (id q1).2.1.below hb1, (id q1).2.2.1.below hb1, (id q1).2.2.2.below hb1⟩
        replace HR := Lib.hid (HR.out.below hb1)
        replace HT := Lib.hid (HT.out.below hb1)
        replace HN1 := Lib.hid (HN1.out.below hb1)
        replace HNq0 := Lib.hid (HNq0.out.below hb1)
        replace HNq1 := Lib.hid (HNq1.out.below hb1)
        replace HNq2 := Lib.hid (HNq2.out.below hb1)
        replace HNq3 := Lib.hid (HNq3.out.below hb1)
        clear hK K q1 hb1
        have q1 := q2
        clear q2
        try simp only [Act.put, x2, x3, x4, x5, x6, x7]
        refine r1 (i := 14) rfl (fun K hK => ?_)
        go_simp
        go_at_call 96
        (with_reducible refine (plus_c _ _ (a.x * b.y - a.y * b.x) (b.x * c.y - b.y * c.x) _ HN1.out HNqd.out D0.out D1.out).mono ?_); rintro e w1 ⟨vqs, rfl, hNqs, hb1⟩
        obtain ⟨mqs, adqs, nqs, cqs, rfl⟩ := hNqs.shape
        have HNqs := Lib.hid hNqs
        clear hNqs
        go_wp2_with fail
        refine hK.out _ _ ?_ (fun q2 => ?_)
        · exact ⟨(id q1).1.below hb1, (id q1).2.1.below hb1, (id q1).2.2.1.below hb1, (id q1).2.2.2.below hb1⟩
        replace HR := Lib.hid (HR.out.below hb1)
        replace HT := Lib.hid (HT.out.below hb1)
        replace HN1 := Lib.hid (HN1.out.below hb1)
        replace HNq0 := Lib.hid (HNq0.out.below hb1)
        replace HNq1 := Lib.hid (HNq1.out.below hb1)
        replace HNq2 := Lib.hid (HNq2.out.below hb1)
        replace HNq3 := Lib.hid (HNq3.out.below hb1)
        replace HNqd := Lib.hid (HNqd.out.below hb1)
        clear hK K q1 hb1
        have q1 := q2
        clear q2
        try simp only [Act.put, x2, x3, x4, x5, x6, x7]
        refine r1 (i := 15) rfl (fun K hK => ?_)
        obtain ⟨k0, k1⟩ := HT.out.two
        obtain ⟨f0, f1⟩ := HT.out.free2
        go_simp
        refine hK.out _ _ ?_ (fun q2 => ?_)
        · exact ⟨(((id q1).1.far (by dsimp only; omega) _).far (by dsimp only; omega) _), (((id q1).2.1.far (by dsimp only; omega) _).far (by dsimp only; omega) _), (((id q1).2.2.1.far (by dsimp only; omega) _).far (by dsimp only; omega) _), (((id q1).2.2.2.set (by dsimp only; omega) _).set (by dsimp only; omega) _)⟩
        replace HR := Lib.hid ((id q2).2.2.2.far2 HR.out (by dsimp only; omega) (by dsimp only; omega))
        replace HN1 := Lib.hid (HN1.out.res HT.out (mqs) (.slice adqs nqs cqs))
        replace HNq0 := Lib.hid (HNq0.out.res HT.out (mqs) (.slice adqs nqs cqs))
        replace HNq1 := Lib.hid (HNq1.out.res HT.out (mqs) (.slice adqs nqs cqs))
        replace HNq2 := Lib.hid (HNq2.out.res HT.out (mqs) (.slice adqs nqs cqs))
        replace HNq3 := Lib.hid (HNq3.out.res HT.out (mqs) (.slice adqs nqs cqs))
        replace HNqd := Lib.hid (HNqd.out.res HT.out (mqs) (.slice adqs nqs cqs))
        replace HNqs := Lib.hid (HNqs.out.res HT.out (mqs) (.slice adqs nqs cqs))
        replace HT := Lib.hid (HT.out.set2 (.bool mqs) (.slice adqs nqs cqs))
        clear hK K q1 k0 k1 f0 f1
        have q1 := q2
        clear q2
        try simp only [Act.put, x2, x3, x4, x5, x6, x7]
        refine wpAnyH_done (by kernel_rfl) ?_ _
        go_wp2_with fail
        go_meet
        case rel => exact ⟨_, _, _, _, _, rfl, by first | exact hgeHT | exact hge1, HT.out, HNqs.out, HR.out, id q1⟩
      · go_simp
        go_at_call 117
        (with_reducible refine (num_n b.y Rb.out.2 _).mono ?_); rintro e w1 ⟨vq1, rfl, hNq1, hb1⟩
        obtain ⟨mq1, adq1, nq1, cq1, rfl⟩ := hNq1.shape
        have HNq1 := Lib.hid hNq1
        clear hNq1
        go_wp2_with fail
        refine hK.out _ _ ?_ (fun q2 => ?_)
        · exact ⟨(id q1).1.below hb1, (id q1).2.1.below hb1, (id q1).2.2.1.below hb1, (id q1).2.2.2.below hb1⟩
        replace HR := Lib.hid (HR.out.below hb1)
        replace HT := Lib.hid (HT.out.below hb1)
        replace HN1 := Lib.hid (HN1.out.below hb1)
        replace HNq0 := Lib.hid (HNq0.out.below hb1)
        clear hK K q1 hb1
        have q1 := q2
        clear q2
        try simp only [Act.put, x2, x3, x4, x5, x6, x7]
        refine r2 (i := 0) (j := 9) rfl (fun K hK => ?_) rfl (fun K hK => ?_)
        · obtain ⟨k0, k1⟩ := HT.out.two
          go_simp
          refine hK.out _ _ ?_ (fun q2 => ?_)
          · exact q1
          clear hK K q1 k0 k1
          have q1 := q2
          clear q2
          try simp only [Act.put, x2, x3, x4, x5, x6, x7]
          refine r1 (i := 9) rfl (fun K hK => ?_)
          go_simp
          go_at_call 117
          (with_reducible refine (num_n c.x Rc.out.1 _).mono ?_); rintro e w1 ⟨vq2, rfl, hNq2, hb1⟩
          obtain ⟨mq2, adq2, nq2, cq2, rfl⟩ := hNq2.shape
          have HNq2 := Lib.hid hNq2
          clear hNq2
          go_wp2_with fail
          refine hK.out _ _ ?_ (fun q2 => ?_)
          · exact ⟨(id q1).1.below hb1, (id q1).2.1.below hb1, (id q1).2.2.1.below hb1, (id q1).2.2.2.below hb1⟩
          replace HR := Lib.hid (HR.out.below hb1)
          replace HT := Lib.hid (HT.out.below hb1)
          replace HN1 := Lib.hid (HN1.out.below hb1)
          replace HNq0 := Lib.hid (HNq0.out.below hb1)
          replace HNq1 := Lib.hid (HNq1.out.below hb1)
          clear hK K q1 hb1
          have q1 := q2
          clear q2
          try simp only [Act.put, x2, x3, x4, x5, x6, x7]
          refine r1 (i := 12) rfl (fun K hK => ?_)
          go_simp
          go_at_call 117
          (with_reducible refine (num_n c.y Rc.out.2 _).mono ?_); rintro e w1 ⟨vq3, rfl, hNq3, hb1⟩
          obtain ⟨mq3, adq3, nq3, cq3, rfl⟩ := hNq3.shape
          have HNq3 := Lib.hid hNq3
          clear hNq3
          go_wp2_with fail
          refine hK.out _ _ ?_ (fun q2 => ?_)
          · exact ⟨(id q1).1.below hb1, (id q1).2.1.below hb1, (id q1).2.2.1.below hb1, (id q1).2.2.2.below hb1⟩
          replace HR := Lib.hid (HR.out.below hb1)
          replace HT := Lib.hid (HT.out.below hb1)
          replace HN1 := Lib.hid (HN1.out.below hb1)
          replace HNq0 := Lib.hid (HNq0.out.below hb1)
          replace HNq1 := Lib.hid (HNq1.out.below hb1)
          replace HNq2 := Lib.hid (HNq2.out.below hb1)
          clear hK K q1 hb1
          have q1 := q2
          clear q2
          try simp only [Act.put, x2, x3, x4, x5, x6, x7]
          refine r1 (i := 13) rfl (fun K hK => ?_)
          go_simp
          go_at_call 116
          (with_reducible refine (det_n _ _ _ _ b.x b.y c.x c.y Zb.out.1 Zb.out.2 Zc.out.1 Zc.out.2 _ HNq0.out HNq1.out HNq2.out HNq3.out).mono ?_); rintro e w1 ⟨vqd, rfl, hNqd, hb1⟩
          obtain ⟨mqd, adqd, nqd, cqd, rfl⟩ := hNqd.shape
          have HNqd := Lib.hid hNqd
          clear hNqd
          go_wp2_with fail
          refine hK.out _ _ ?_ (fun q2 => ?_)
          · exact ⟨(id q1).1.below hb1, (id q1).2.1.below hb1, (id q1).2.2.1.below hb1, (id q1).2.2.2.below hb1⟩
          replace HR := Lib.hid (HR.out.below hb1)
          replace HT := Lib.hid (HT.out.below hb1)
          replace HN1 := Lib.hid (HN1.out.below hb1)
          replace HNq0 := Lib.hid (HNq0.out.below hb1)
          replace HNq1 := Lib.hid (HNq1.out.below hb1)
          replace HNq2 := Lib.hid (HNq2.out.below hb1)
          replace HNq3 := Lib.hid (HNq3.out.below hb1)
          clear hK K q1 hb1
          have q1 := q2
          clear q2
          try simp only [Act.put, x2, x3, x4, x5, x6, x7]
          refine r1 (i := 14) rfl (fun K hK => ?_)
          go_simp
          go_at_call 96
          (with_reducible refine (plus_c _ _ (a.x * b.y - a.y * b.x) (b.x * c.y - b.y * c.x) _ HN1.out HNqd.out D0.out D1.out).mono ?_); rintro e w1 ⟨vqs, rfl, hNqs, hb1⟩
          obtain ⟨mqs, adqs, nqs, cqs, rfl⟩ := hNqs.shape
          have HNqs := Lib.hid hNqs
          clear hNqs
          go_wp2_with fail
          refine hK.out _ _ ?_ (fun q2 => ?_)
          · exact ⟨(id q1).1.below hb1, (id q1).2.1.below hb1, (id q1).2.2.1.below hb1, (id q1).2.2.2.below hb1⟩
          replace HR := Lib.hid (HR.out.below hb1)
          replace HT := Lib.hid (HT.out.below hb1)
          replace HN1 := Lib.hid (HN1.out.below hb1)
          replace HNq0 := Lib.hid (HNq0.out.below hb1)
          replace HNq1 := Lib.hid (HNq1.out.below hb1)
          replace HNq2 := Lib.hid (HNq2.out.below hb1)
          replace HNq3 := Lib.hid (HNq3.out.below hb1)
          replace HNqd := Lib.hid (HNqd.out.below hb1)
          clear hK K q1 hb1
          have q1 := q2
          clear q2
          try simp only [Act.put, x2, x3, x4, x5, x6, x7]
          refine r1 (i := 15) rfl (fun K hK => ?_)
          obtain ⟨k0, k1⟩ := HT.out.two
          obtain ⟨f0, f1⟩ := HT.out.free2
          go_simp
          refine hK.out _ _ ?_ (fun q2 => ?_)
          · exact ⟨(((id q1).1.far (by dsimp only; omega) _).far (by dsimp only; omega) _), (((id q1).2.1.far (by dsimp only; omega) _).far (by dsimp only; omega) _), (((id q1).2.2.1.far (by dsimp only; omega) _).far (by dsimp only; omega) _), (((id q1).2.2.2.set (by dsimp only; omega) _).set (by dsimp only; omega) _)⟩
          replace HR := Lib.hid ((id q2).2.2.2.far2 HR.out (by dsimp only; omega) (by dsimp only; omega))
          replace HN1 := Lib.hid (HN1.out.res HT.out (mqs) (.slice adqs nqs cqs))
          replace HNq0 := Lib.hid (HNq0.out.res HT.out (mqs) (.slice adqs nqs cqs))
          replace HNq1 := Lib.hid (HNq1.out.res HT.out (mqs) (.slice adqs nqs cqs))
          replace HNq2 := Lib.hid (HNq2.out.res HT.out (mqs) (.slice adqs nqs cqs))
          replace HNq3 := Lib.hid (HNq3.out.res HT.out (mqs) (.slice adqs nqs cqs))
          replace HNqd := Lib.hid (HNqd.out.res HT.out (mqs) (.slice adqs nqs cqs))
          replace HNqs := Lib.hid (HNqs.out.res HT.out (mqs) (.slice adqs nqs cqs))
          replace HT := Lib.hid (HT.out.set2 (.bool mqs) (.slice adqs nqs cqs))
          clear hK K q1 k0 k1 f0 f1
          have q1 := q2
          clear q2
          try simp only [Act.put, x2, x3, x4, x5, x6, x7]
          refine wpAnyH_done (by kernel_rfl) ?_ _
          go_wp2_with fail
          go_meet
          case rel => exact ⟨_, _, _, _, _, rfl, by first | exact hgeHT | exact hge1, HT.out, HNqs.out, HR.out, id q1⟩
        · go_simp
          go_at_call 117
          (with_reducible refine (num_n c.x Rc.out.1 _).mono ?_); rintro e w1 ⟨vq2, rfl, hNq2, hb1⟩
          obtain ⟨mq2, adq2, nq2, cq2, rfl⟩ := hNq2.shape
          have HNq2 := Lib.hid hNq2
          clear hNq2
          go_wp2_with fail
          refine hK.out _ _ ?_ (fun q2 => ?_)
          · exact ⟨(id q1).1.below hb1, (id q1).2.1.below hb1, (id q1).2.2.1.below hb1, (id q1).2.2.2.below hb1⟩
          replace HR := Lib.hid (HR.out.below hb1)
          replace HT := Lib.hid (HT.out.below hb1)
          replace HN1 := Lib.hid (HN1.out.below hb1)
          replace HNq0 := Lib.hid (HNq0.out.below hb1)
          replace HNq1 := Lib.hid (HNq1.out.below hb1)
          clear hK K q1 hb1
          have q1 := q2
          clear q2
          try simp only [Act.put, x2, x3, x4, x5, x6, x7]
          refine r2 (i := 0) (j := 12) rfl (fun K hK => ?_) rfl (fun K hK => ?_)
          · obtain ⟨k0, k1⟩ := HT.out.two
            go_simp
            refine hK.out _ _ ?_ (fun q2 => ?_)
            · exact q1
            clear hK K q1 k0 k1
            have q1 := q2
            clear q2
            try simp only [Act.put, x2, x3, x4, x5, x6, x7]
            refine r1 (i := 12) rfl (fun K hK => ?_)
            go_simp
            go_at_call 117
            (with_reducible refine (num_n c.y Rc.out.2 _).mono ?_); rintro e w1 ⟨vq3, rfl, hNq3, hb1⟩
            obtain ⟨mq3, adq3, nq3, cq3, rfl⟩ := hNq3.shape
            have HNq3 := Lib.hid hNq3
            clear hNq3
            go_wp2_with fail
            refine hK.out _ _ ?_ (fun q2 => ?_)
            · exact ⟨(id q1).1.below hb1, (id q1).2.1.below hb1, (id q1).2.2.1.below hb1, (id q1).2.2.2.below hb1⟩
            replace HR := Lib.hid (HR.out.below hb1)
            replace HT := Lib.hid (HT.out.below hb1)
            replace HN1 := Lib.hid (HN1.out.below hb1)
            replace HNq0 := Lib.hid (HNq0.out.below hb1)
            replace HNq1 := Lib.hid (HNq1.out.below hb1)
            replace HNq2 := Lib.hid (HNq2.out.below hb1)
            clear hK K q1 hb1
            have q1 := q2
            clear q2
            try simp only [Act.put, x2, x3, x4, x5, x6, x7]
            refine r1 (i := 13) rfl (fun K hK => ?_)
            go_simp
            go_at_call 116
            (with_reducible refine (det_n _ _ _ _ b.x b.y c.x c.y Zb.out.1 Zb.out.2 Zc.out.1 Zc.out.2 _ HNq0.out HNq1.out HNq2.out HNq3.out).mono ?_); rintro e w1 ⟨vqd, rfl, hNqd, hb1⟩
            obtain ⟨mqd, adqd, nqd, cqd, rfl⟩ := hNqd.shape
            have HNqd := Lib.hid hNqd
            clear hNqd
            go_wp2_with fail
            refine hK.out _ _ ?_ (fun q2 => ?_)
            · exact ⟨(id q1).1.below hb1, (id q1).2.1.below hb1, (id q1).2.2.1.below hb1, (id q1).2.2.2.below hb1⟩
            replace HR := Lib.hid (HR.out.below hb1)
            replace HT := Lib.hid (HT.out.below hb1)
            replace HN1 := Lib.hid (HN1.out.below hb1)
            replace HNq0 := Lib.hid (HNq0.out.below hb1)
            replace HNq1 := Lib.hid (HNq1.out.below hb1)
            replace HNq2 := Lib.hid (HNq2.out.below hb1)
            replace HNq3 := Lib.hid (HNq3.out.below hb1)
            clear hK K q1 hb1
            have q1 := q2
            clear q2
            try simp only [Act.put, x2, x3, x4, x5, x6, x7]
            refine r1 (i := 14) rfl (fun K hK => ?_)
            go_simp
            go_at_call 96
            (with_reducible refine (plus_c _ _ (a.x * b.y - a.y * b.x) (b.x * c.y - b.y * c.x) _ HN1.out HNqd.out D0.out D1.out).mono ?_); rintro e w1 ⟨vqs, rfl, hNqs, hb1⟩
            obtain ⟨mqs, adqs, nqs, cqs, rfl⟩ := hNqs.shape
            have HNqs := Lib.hid hNqs
            clear hNqs
            go_wp2_with fail
            refine hK.out _ _ ?_ (fun q2 => ?_)
            · exact ⟨(id q1).1.below hb1, (id q1).2.1.below hb1, (id q1).2.2.1.below hb1, (id q1).2.2.2.below hb1⟩
            replace HR := Lib.hid (HR.out.below hb1)
            replace HT := Lib.hid (HT.out.below hb1)
            replace HN1 := Lib.hid (HN1.out.below hb1)
            replace HNq0 := Lib.hid (HNq0.out.below hb1)
            replace HNq1 := Lib.hid (HNq1.out.below hb1)
            replace HNq2 := Lib.hid (HNq2.out.below hb1)
            replace HNq3 := Lib.hid (HNq3.out.below hb1)
            replace HNqd := Lib.hid (HNqd.out.below hb1)
            clear hK K q1 hb1
            have q1 := q2
            clear q2
            try simp only [Act.put, x2, x3, x4, x5, x6, x7]
            refine r1 (i := 15) rfl (fun K hK => ?_)
            obtain ⟨k0, k1⟩ := HT.out.two
            obtain ⟨f0, f1⟩ := HT.out.free2
            go_simp
            refine hK.out _ _ ?_ (fun q2 => ?_)
            · exact ⟨(((id q1).1.far (by dsimp only; omega) _).far (by dsimp only; omega) _), (((id q1).2.1.far (by dsimp only; omega) _).far (by dsimp only; omega) _), (((id q1).2.2.1.far (by dsimp only; omega) _).far (by dsimp only; omega) _), (((id q1).2.2.2.set (by dsimp only; omega) _).set (by dsimp only; omega) _)⟩
            replace HR := Lib.hid ((id q2).2.2.2.far2 HR.out (by dsimp only; omega) (by dsimp only; omega))
            replace HN1 := Lib.hid (HN1.out.res HT.out (mqs) (.slice adqs nqs cqs))
            replace HNq0 := Lib.hid (HNq0.out.res HT.out (mqs) (.slice adqs nqs cqs))
            replace HNq1 := Lib.hid (HNq1.out.res HT.out (mqs) (.slice adqs nqs cqs))
            replace HNq2 := Lib.hid (HNq2.out.res HT.out (mqs) (.slice adqs nqs cqs))
            replace HNq3 := Lib.hid (HNq3.out.res HT.out (mqs) (.slice adqs nqs cqs))
            replace HNqd := Lib.hid (HNqd.out.res HT.out (mqs) (.slice adqs nqs cqs))
            replace HNqs := Lib.hid (HNqs.out.res HT.out (mqs) (.slice adqs nqs cqs))
            replace HT := Lib.hid (HT.out.set2 (.bool mqs) (.slice adqs nqs cqs))
            clear hK K q1 k0 k1 f0 f1
            have q1 := q2
            clear q2
            try simp only [Act.put, x2, x3, x4, x5, x6, x7]
            refine wpAnyH_done (by kernel_rfl) ?_ _
            go_wp2_with fail
            go_meet
            case rel => exact ⟨_, _, _, _, _, rfl, by first | exact hgeHT | exact hge1, HT.out, HNqs.out, HR.out, id q1⟩
          · go_simp
            go_at_call 117
            (with_reducible refine (num_n c.y Rc.out.2 _).mono ?_); rintro e w1 ⟨vq3, rfl, hNq3, hb1⟩
            obtain ⟨mq3, adq3, nq3, cq3, rfl⟩ := hNq3.shape
            have HNq3 := Lib.hid hNq3
            clear hNq3
            go_wp2_with fail
            refine hK.out _ _ ?_ (fun q2 => ?_)
            · exact ⟨(id q1).1.below hb1, (id q1).2.1.below hb1, (id q1).2.2.1.below hb1, (id q1).2.2.2.below hb1⟩
            replace HR := Lib.hid (HR.out.below hb1)
            replace HT := Lib.hid (HT.out.below hb1)
            replace HN1 := Lib.hid (HN1.out.below hb1)
            replace HNq0 := Lib.hid (HNq0.out.below hb1)
            replace HNq1 := Lib.hid (HNq1.out.below hb1)
            replace HNq2 := Lib.hid (HNq2.out.below hb1)
            clear hK K q1 hb1
            have q1 := q2
            clear q2
            try simp only [Act.put, x2, x3, x4, x5, x6, x7]
            refine r2 (i := 0) (j := 13) rfl (fun K hK => ?_) rfl (fun K hK => ?_)
            · obtain ⟨k0, k1⟩ := HT.out.two
              go_simp
              refine hK.out _ _ ?_ (fun q2 => ?_)
              · exact q1
              clear hK K q1 k0 k1
              have q1 := q2
              clear q2
              try simp only [Act.put, x2, x3, x4, x5, x6, x7]
              refine r1 (i := 13) rfl (fun K hK => ?_)
              go_simp
              go_at_call 116
              (with_reducible refine (det_n _ _ _ _ b.x b.y c.x c.y Zb.out.1 Zb.out.2 Zc.out.1 Zc.out.2 _ HNq0.out HNq1.out HNq2.out HNq3.out).mono ?_); rintro e w1 ⟨vqd, rfl, hNqd, hb1⟩
              obtain ⟨mqd, adqd, nqd, cqd, rfl⟩ := hNqd.shape
              have HNqd := Lib.hid hNqd
              clear hNqd
              go_wp2_with fail
              refine hK.out _ _ ?_ (fun q2 => ?_)
              · exact ⟨(id q1).1.below hb1, (id q1).2.1.below hb1, (id q1).2.2.1.below hb1, (id q1).2.2.2.below hb1⟩
              replace HR := Lib.hid (HR.out.below hb1)
              replace HT := Lib.hid (HT.out.below hb1)
              replace HN1 := Lib.hid (HN1.out.below hb1)
              replace HNq0 := Lib.hid (HNq0.out.below hb1)
              replace HNq1 := Lib.hid (HNq1.out.below hb1)
              replace HNq2 := Lib.hid (HNq2.out.below hb1)
              replace HNq3 := Lib.hid (HNq3.out.below hb1)
              clear hK K q1 hb1
              have q1 := q2
              clear q2
              try simp only [Act.put, x2, x3, x4, x5, x6, x7]
              refine r1 (i := 14) rfl (fun K hK => ?_)
              go_simp
              go_at_call 96
              (with_reducible refine (plus_c _ _ (a.x * b.y - a.y * b.x) (b.x * c.y - b.y * c.x) _ HN1.out HNqd.out D0.out D1.out).mono ?_); rintro e w1 ⟨vqs, rfl, hNqs, hb1⟩
              obtain ⟨mqs, adqs, nqs, cqs, rfl⟩ := hNqs.shape
              have HNqs := Lib.hid hNqs
              clear hNqs
              go_wp2_with fail
              refine hK.out _ _ ?_ (fun q2 => ?_)
              · exact ⟨(id q1).1.below hb1, (id q1).2.1.below hb1, (id q1).2.2.1.below hb1, (id q1).2.2.2.below hb1⟩
              replace HR := Lib.hid (HR.out.below hb1)
              replace HT := Lib.hid (HT.out.below hb1)
              replace HN1 := Lib.hid (HN1.out.below hb1)
              replace HNq0 := Lib.hid (HNq0.out.below hb1)
              replace HNq1 := Lib.hid (HNq1.out.below hb1)
              replace HNq2 := Lib.hid (HNq2.out.below hb1)
              replace HNq3 := Lib.hid (HNq3.out.below hb1)
              replace HNqd := Lib.hid (HNqd.out.below hb1)
              clear hK K q1 hb1
              have q1 := q2
              clear q2
              try simp only [Act.put, x2, x3, x4, x5, x6, x7]
              refine r1 (i := 15) rfl (fun K hK => ?_)
              obtain ⟨k0, k1⟩ := HT.out.two
              obtain ⟨f0, f1⟩ := HT.out.free2
              go_simp
              refine hK.out _ _ ?_ (fun q2 => ?_)
              · exact ⟨(((id q1).1.far (by dsimp only; omega) _).far (by dsimp only; omega) _), (((id q1).2.1.far (by dsimp only; omega) _).far (by dsimp only; omega) _), (((id q1).2.2.1.far (by dsimp only; omega) _).far (by dsimp only; omega) _), (((id q1).2.2.2.set (by dsimp only; omega) _).set (by dsimp only; omega) _)⟩
              replace HR := Lib.hid ((id q2).2.2.2.far2 HR.out (by dsimp only; omega) (by dsimp only; omega))
              replace HN1 := Lib.hid (HN1.out.res HT.out (mqs) (.slice adqs nqs cqs))
              replace HNq0 := Lib.hid (HNq0.out.res HT.out (mqs) (.slice adqs nqs cqs))
              replace HNq1 := Lib.hid (HNq1.out.res HT.out (mqs) (.slice adqs nqs cqs))
              replace HNq2 := Lib.hid (HNq2.out.res HT.out (mqs) (.slice adqs nqs cqs))
              replace HNq3 := Lib.hid (HNq3.out.res HT.out (mqs) (.slice adqs nqs cqs))
              replace HNqd := Lib.hid (HNqd.out.res HT.out (mqs) (.slice adqs nqs cqs))
              replace HNqs := Lib.hid (HNqs.out.res HT.out (mqs) (.slice adqs nqs cqs))
              replace HT := Lib.hid (HT.out.set2 (.bool mqs) (.slice adqs nqs cqs))
              clear hK K q1 k0 k1 f0 f1
              have q1 := q2
              clear q2
              try simp only [Act.put, x2, x3, x4, x5, x6, x7]
              refine wpAnyH_done (by kernel_rfl) ?_ _
              go_wp2_with fail
              go_meet
              case rel => exact ⟨_, _, _, _, _, rfl, by first | exact hgeHT | exact hge1, HT.out, HNqs.out, HR.out, id q1⟩
            · go_simp
              go_at_call 116
              (with_reducible refine (det_n _ _ _ _ b.x b.y c.x c.y Zb.out.1 Zb.out.2 Zc.out.1 Zc.out.2 _ HNq0.out HNq1.out HNq2.out HNq3.out).mono ?_); rintro e w1 ⟨vqd, rfl, hNqd, hb1⟩
              obtain ⟨mqd, adqd, nqd, cqd, rfl⟩ := hNqd.shape
              have HNqd := Lib.hid hNqd
              clear hNqd
              go_wp2_with fail
              refine hK.out _ _ ?_ (fun q2 => ?_)
              · exact ⟨(id q1).1.below hb1, (id q1).2.1.below hb1, (id q1).2.2.1.below hb1, (id q1).2.2.2.below hb1⟩
              replace HR := Lib.hid (HR.out.below hb1)
              replace HT := Lib.hid (HT.out.below hb1)
              replace HN1 := Lib.hid (HN1.out.below hb1)
              replace HNq0 := Lib.hid (HNq0.out.below hb1)
              replace HNq1 := Lib.hid (HNq1.out.below hb1)
              replace HNq2 := Lib.hid (HNq2.out.below hb1)
              replace HNq3 := Lib.hid (HNq3.out.below hb1)
              clear hK K q1 hb1
              have q1 := q2
              clear q2
              try simp only [Act.put, x2, x3, x4, x5, x6, x7]
              refine r1 (i := 0) rfl (fun K hK => ?_)
              obtain ⟨k0, k1⟩ := HT.out.two
              go_simp
              refine hK.out _ _ ?_ (fun q2 => ?_)
              · exact q1
              clear hK K q1 k0 k1
              have q1 := q2
              clear q2
              try simp only [Act.put, x2, x3, x4, x5, x6, x7]
              refine r1 (i := 14) rfl (fun K hK => ?_)
              go_simp
              go_at_call 96
              (with_reducible refine (plus_c _ _ (a.x * b.y - a.y * b.x) (b.x * c.y - b.y * c.x) _ HN1.out HNqd.out D0.out D1.out).mono ?_); rintro e w1 ⟨vqs, rfl, hNqs, hb1⟩
              obtain ⟨mqs, adqs, nqs, cqs, rfl⟩ := hNqs.shape
              have HNqs := Lib.hid hNqs
              clear hNqs
              go_wp2_with fail
              refine hK.out _ _ ?_ (fun q2 => ?_)
              · exact ⟨(id q1).1.below hb1, (id q1).2.1.below hb1, (id q1).2.2.1.below hb1, (id q1).2.2.2.below hb1⟩
              replace HR := Lib.hid (HR.out.below hb1)
              replace HT := Lib.hid (HT.out.below hb1)
              replace HN1 := Lib.hid (HN1.out.below hb1)
              replace HNq0 := Lib.hid (HNq0.out.below hb1)
              replace HNq1 := Lib.hid (HNq1.out.below hb1)
              replace HNq2 := Lib.hid (HNq2.out.below hb1)
              replace HNq3 := Lib.hid (HNq3.out.below hb1)
              replace HNqd := Lib.hid (HNqd.out.below hb1)
              clear hK K q1 hb1
              have q1 := q2
              clear q2
              try simp only [Act.put, x2, x3, x4, x5, x6, x7]
              refine r1 (i := 15) rfl (fun K hK => ?_)
              obtain ⟨k0, k1⟩ := HT.out.two
              obtain ⟨f0, f1⟩ := HT.out.free2
              go_simp
              refine hK.out _ _ ?_ (fun q2 => ?_)
              · exact ⟨(((id q1).1.far (by dsimp only; omega) _).far (by dsimp only; omega) _), (((id q1).2.1.far (by dsimp only; omega) _).far (by dsimp only; omega) _), (((id q1).2.2.1.far (by dsimp only; omega) _).far (by dsimp only; omega) _), (((id q1).2.2.2.set (by dsimp only; omega) _).set (by dsimp only; omega) _)⟩
              replace HR := Lib.hid ((id q2).2.2.2.far2 HR.out (by dsimp only; omega) (by dsimp only; omega))
              replace HN1 := Lib.hid (HN1.out.res HT.out (mqs) (.slice adqs nqs cqs))
              replace HNq0 := Lib.hid (HNq0.out.res HT.out (mqs) (.slice adqs nqs cqs))
              replace HNq1 := Lib.hid (HNq1.out.res HT.out (mqs) (.slice adqs nqs cqs))
              replace HNq2 := Lib.hid (HNq2.out.res HT.out (mqs) (.slice adqs nqs cqs))
              replace HNq3 := Lib.hid (HNq3.out.res HT.out (mqs) (.slice adqs nqs cqs))
              replace HNqd := Lib.hid (HNqd.out.res HT.out (mqs) (.slice adqs nqs cqs))
              replace HNqs := Lib.hid (HNqs.out.res HT.out (mqs) (.slice adqs nqs cqs))
              replace HT := Lib.hid (HT.out.set2 (.bool mqs) (.slice adqs nqs cqs))
              clear hK K q1 k0 k1 f0 f1
              have q1 := q2
              clear q2
              try simp only [Act.put, x2, x3, x4, x5, x6, x7]
              refine wpAnyH_done (by kernel_rfl) ?_ _
              go_wp2_with fail
              go_meet
              case rel => exact ⟨_, _, _, _, _, rfl, by first | exact hgeHT | exact hge1, HT.out, HNqs.out, HR.out, id q1⟩
  case rest =>
  obtain ⟨g2, m2, ad2, n2, c2, rfl, hge2, hT, hN, hr, hS0⟩ := hcut
  replace HS0 := Lib.hid hS0
  replace HR := Lib.hid hr
  have HT := Lib.hid hT
  have HN2 := Lib.hid hN
  clear hS0 hr hT hN
  go_upto_region 3 with (fail)
  refine wp_region_held_drew (S := fun W => Var W (w.heap.size) [.int .i64 a.x, .int .i64 a.y] ∧ Var W (w.heap.size + 1) [.int .i64 b.x, .int .i64 b.y] ∧ Var W (w.heap.size + 1 + 1) [.int .i64 c.x, .int .i64 c.y] ∧ Grew w 4 W) (by kernel_rfl) ?_ (fun q1 => ?_)
  · exact ⟨HS0.out.1.below (bel_drew _), HS0.out.2.1.below (bel_drew _), HS0.out.2.2.1.below (bel_drew _), HS0.out.2.2.2.below (bel_drew _)⟩
  replace HR := Lib.hid (HR.out.below (bel_drew _))
  replace HT := Lib.hid (HT.out.below (bel_drew _))
  replace HN2 := Lib.hid (HN2.out.below (bel_drew _))
  revert HR
  revert HT
  revert HN2
  revert q1
  generalize World.drew _ = W1
  intro q1 HN2 HT HR
  refine tk (i := 1) (v := ?_) rfl (Or.inl ⟨by rfl, ?_⟩) ?_
  rotate_left
  · intro Wq hSw
    clear hSw
    go_simp
    all_goals (with_reducible rfl)
  try simp only [Act.put, x2, x3, x4, x5, x6, x7]
  refine tk (i := 2) (v := ?_) rfl (Or.inl ⟨by rfl, ?_⟩) ?_
  rotate_left
  · intro Wq hSw
    obtain ⟨k0, k1⟩ := (id hSw).2.2.1.two
    clear hSw
    go_simp
    all_goals (with_reducible rfl)
  try simp only [Act.put, x2, x3, x4, x5, x6, x7]
  refine tk (i := 4) (v := ?_) rfl (Or.inl ⟨by rfl, ?_⟩) ?_
  rotate_left
  · intro Wq hSw
    clear hSw
    go_simp
    all_goals (with_reducible rfl)
  try simp only [Act.put, x2, x3, x4, x5, x6, x7]
  refine tk (i := 5) (v := ?_) rfl (Or.inl ⟨by rfl, ?_⟩) ?_
  rotate_left
  · intro Wq hSw
    obtain ⟨k0, k1⟩ := (id hSw).2.2.1.two
    clear hSw
    go_simp
    all_goals (with_reducible rfl)
  try simp only [Act.put, x2, x3, x4, x5, x6, x7]
  refine tk (i := 7) (v := ?_) rfl (Or.inl ⟨by rfl, ?_⟩) ?_
  rotate_left
  · intro Wq hSw
    clear hSw
    go_simp
    all_goals (with_reducible rfl)
  try simp only [Act.put, x2, x3, x4, x5, x6, x7]
  refine tk (i := 8) (v := ?_) rfl (Or.inl ⟨by rfl, ?_⟩) ?_
  rotate_left
  · intro Wq hSw
    obtain ⟨k0, k1⟩ := (id hSw).1.two
    clear hSw
    go_simp
    all_goals (with_reducible rfl)
  try simp only [Act.put, x2, x3, x4, x5, x6, x7]
  refine tk (i := 10) (v := ?_) rfl (Or.inl ⟨by rfl, ?_⟩) ?_
  rotate_left
  · intro Wq hSw
    clear hSw
    go_simp
    all_goals (with_reducible rfl)
  try simp only [Act.put, x2, x3, x4, x5, x6, x7]
  refine tk (i := 11) (v := ?_) rfl (Or.inl ⟨by rfl, ?_⟩) ?_
  rotate_left
  · intro Wq hSw
    obtain ⟨k0, k1⟩ := (id hSw).1.two
    clear hSw
    go_simp
    all_goals (with_reducible rfl)
  try simp only [Act.put, x2, x3, x4, x5, x6, x7]
  refine r2 (i := 0) (j := 3) rfl (fun K hK => ?_) rfl (fun K hK => ?_)
  · obtain ⟨k0, k1⟩ := HT.out.two
    go_simp
    refine hK.out _ _ ?_ (fun q2 => ?_)
    · exact q1
    clear hK K q1 k0 k1
    have q1 := q2
    clear q2
    try simp only [Act.put, x2, x3, x4, x5, x6, x7]
    refine r1 (i := 3) rfl (fun K hK => ?_)
    go_simp
    go_at_call 117
    (with_reducible refine (num_n c.x Rc.out.1 _).mono ?_); rintro e w1 ⟨vr0, rfl, hNr0, hb1⟩
    obtain ⟨mr0, adr0, nr0, cr0, rfl⟩ := hNr0.shape
    have HNr0 := Lib.hid hNr0
    clear hNr0
    go_wp2_with fail
    refine hK.out _ _ ?_ (fun q2 => ?_)
    · exact ⟨(id q1).1.below hb1, (id q1).2.1.below hb1, (id q1).2.2.1.below hb1, (id q1).2.2.2.below hb1⟩
    replace HR := Lib.hid (HR.out.below hb1)
    replace HT := Lib.hid (HT.out.below hb1)
    replace HN2 := Lib.hid (HN2.out.below hb1)
    clear hK K q1 hb1
    have q1 := q2
    clear q2
    try simp only [Act.put, x2, x3, x4, x5, x6, x7]
    refine r1 (i := 6) rfl (fun K hK => ?_)
    go_simp
    go_at_call 117
    (with_reducible refine (num_n c.y Rc.out.2 _).mono ?_); rintro e w1 ⟨vr1, rfl, hNr1, hb1⟩
    obtain ⟨mr1, adr1, nr1, cr1, rfl⟩ := hNr1.shape
    have HNr1 := Lib.hid hNr1
    clear hNr1
    go_wp2_with fail
    refine hK.out _ _ ?_ (fun q2 => ?_)
    · exact ⟨(id q1).1.below hb1, (id q1).2.1.below hb1, (id q1).2.2.1.below hb1, (id q1).2.2.2.below hb1⟩
    replace HR := Lib.hid (HR.out.below hb1)
    replace HT := Lib.hid (HT.out.below hb1)
    replace HN2 := Lib.hid (HN2.out.below hb1)
    replace HNr0 := Lib.hid (HNr0.out.below hb1)
    clear hK K q1 hb1
    have q1 := q2
    clear q2
    try simp only [Act.put, x2, x3, x4, x5, x6, x7]
    refine r1 (i := 9) rfl (fun K hK => ?_)
    go_simp
    go_at_call 117
    (with_reducible refine (num_n a.x Ra.out.1 _).mono ?_); rintro e w1 ⟨vr2, rfl, hNr2, hb1⟩
    obtain ⟨mr2, adr2, nr2, cr2, rfl⟩ := hNr2.shape
    have HNr2 := Lib.hid hNr2
    clear hNr2
    go_wp2_with fail
    refine hK.out _ _ ?_ (fun q2 => ?_)
    · exact ⟨(id q1).1.below hb1, (id q1).2.1.below hb1, (id q1).2.2.1.below hb1, (id q1).2.2.2.below hb1⟩
    replace HR := Lib.hid (HR.out.below hb1)
    replace HT := Lib.hid (HT.out.below hb1)
    replace HN2 := Lib.hid (HN2.out.below hb1)
    replace HNr0 := Lib.hid (HNr0.out.below hb1)
    replace HNr1 := Lib.hid (HNr1.out.below hb1)
    clear hK K q1 hb1
    have q1 := q2
    clear q2
    try simp only [Act.put, x2, x3, x4, x5, x6, x7]
    refine r1 (i := 12) rfl (fun K hK => ?_)
    go_simp
    go_at_call 117
    (with_reducible refine (num_n a.y Ra.out.2 _).mono ?_); rintro e w1 ⟨vr3, rfl, hNr3, hb1⟩
    obtain ⟨mr3, adr3, nr3, cr3, rfl⟩ := hNr3.shape
    have HNr3 := Lib.hid hNr3
    clear hNr3
    go_wp2_with fail
    refine hK.out _ _ ?_ (fun q2 => ?_)
    · exact ⟨(id q1).1.below hb1, (id q1).2.1.below hb1, (id q1).2.2.1.below hb1, (id q1).2.2.2.below hb1⟩
    replace HR := Lib.hid (HR.out.below hb1)
    replace HT := Lib.hid (HT.out.below hb1)
    replace HN2 := Lib.hid (HN2.out.below hb1)
    replace HNr0 := Lib.hid (HNr0.out.below hb1)
    replace HNr1 := Lib.hid (HNr1.out.below hb1)
    replace HNr2 := Lib.hid (HNr2.out.below hb1)
    clear hK K q1 hb1
    have q1 := q2
    clear q2
    try simp only [Act.put, x2, x3, x4, x5, x6, x7]
    refine r1 (i := 13) rfl (fun K hK => ?_)
    go_simp
    go_at_call 116
    (with_reducible refine (det_n _ _ _ _ c.x c.y a.x a.y Zc.out.1 Zc.out.2 Za.out.1 Za.out.2 _ HNr0.out HNr1.out HNr2.out HNr3.out).mono ?_); rintro e w1 ⟨vrd, rfl, hNrd, hb1⟩
    obtain ⟨mrd, adrd, nrd, crd, rfl⟩ := hNrd.shape
    have HNrd := Lib.hid hNrd
    clear hNrd
    go_wp2_with fail
    refine hK.out _ _ ?_ (fun q2 => ?_)
    · exact ⟨(id q1).1.below hb1, (id q1).2.1.below hb1, (id q1).2.2.1.below hb1, (id q1).2.2.2.below hb1⟩
    replace HR := Lib.hid (HR.out.below hb1)
    replace HT := Lib.hid (HT.out.below hb1)
    replace HN2 := Lib.hid (HN2.out.below hb1)
    replace HNr0 := Lib.hid (HNr0.out.below hb1)
    replace HNr1 := Lib.hid (HNr1.out.below hb1)
    replace HNr2 := Lib.hid (HNr2.out.below hb1)
    replace HNr3 := Lib.hid (HNr3.out.below hb1)
    clear hK K q1 hb1
    have q1 := q2
    clear q2
    try simp only [Act.put, x2, x3, x4, x5, x6, x7]
    refine r1 (i := 14) rfl (fun K hK => ?_)
    go_simp
    go_at_call 96
    (with_reducible refine (plus_c _ _ (a.x * b.y - a.y * b.x + (b.x * c.y - b.y * c.x)) (c.x * a.y - c.y * a.x) _ HN2.out HNrd.out D3.out D2.out).mono ?_); rintro e w1 ⟨vrs, rfl, hNrs, hb1⟩
    obtain ⟨mrs, adrs, nrs, crs, rfl⟩ := hNrs.shape
    have HNrs := Lib.hid hNrs
    clear hNrs
    go_wp2_with fail
    refine hK.out _ _ ?_ (fun q2 => ?_)
    · exact ⟨(id q1).1.below hb1, (id q1).2.1.below hb1, (id q1).2.2.1.below hb1, (id q1).2.2.2.below hb1⟩
    replace HR := Lib.hid (HR.out.below hb1)
    replace HT := Lib.hid (HT.out.below hb1)
    replace HN2 := Lib.hid (HN2.out.below hb1)
    replace HNr0 := Lib.hid (HNr0.out.below hb1)
    replace HNr1 := Lib.hid (HNr1.out.below hb1)
    replace HNr2 := Lib.hid (HNr2.out.below hb1)
    replace HNr3 := Lib.hid (HNr3.out.below hb1)
    replace HNrd := Lib.hid (HNrd.out.below hb1)
    clear hK K q1 hb1
    have q1 := q2
    clear q2
    try simp only [Act.put, x2, x3, x4, x5, x6, x7]
    refine r1 (i := 15) rfl (fun K hK => ?_)
    obtain ⟨k0, k1⟩ := HR.out.two
    obtain ⟨f0, f1⟩ := HR.out.free2
    go_simp
    refine hK.out _ _ ?_ (fun q2 => ?_)
    · exact ⟨(((id q1).1.far (by dsimp only; omega) _).far (by dsimp only; omega) _), (((id q1).2.1.far (by dsimp only; omega) _).far (by dsimp only; omega) _), (((id q1).2.2.1.far (by dsimp only; omega) _).far (by dsimp only; omega) _), (((id q1).2.2.2.set (by dsimp only; omega) _).set (by dsimp only; omega) _)⟩
    replace HT := Lib.hid ((id q2).2.2.2.far2 HT.out (by dsimp only; omega) (by dsimp only; omega))
    replace HN2 := Lib.hid (HN2.out.res HR.out (mrs) (.slice adrs nrs crs))
    replace HNr0 := Lib.hid (HNr0.out.res HR.out (mrs) (.slice adrs nrs crs))
    replace HNr1 := Lib.hid (HNr1.out.res HR.out (mrs) (.slice adrs nrs crs))
    replace HNr2 := Lib.hid (HNr2.out.res HR.out (mrs) (.slice adrs nrs crs))
    replace HNr3 := Lib.hid (HNr3.out.res HR.out (mrs) (.slice adrs nrs crs))
    replace HNrd := Lib.hid (HNrd.out.res HR.out (mrs) (.slice adrs nrs crs))
    replace HNrs := Lib.hid (HNrs.out.res HR.out (mrs) (.slice adrs nrs crs))
    replace HR := Lib.hid (HR.out.set2 (.bool mrs) (.slice adrs nrs crs))
    clear hK K q1 k0 k1 f0 f1
    have q1 := q2
    clear q2
    try simp only [Act.put, x2, x3, x4, x5, x6, x7]
    refine wpAnyH_done (by kernel_rfl) ?_ _
    go_wp2_with fail
    obtain ⟨k0, k1⟩ := HR.out.two
    rw [HE.out] at HNrs
    refine bodyPost_ret (v := .agg #[.bool mrs, .slice adrs nrs crs]) (by simp [results, Tryz.results98, go_sem, k0, k1]; done) rfl ⟨_, rfl, HNrs.out, (id q1).2.2.2.hb⟩
  · go_simp
    go_at_call 117
    (with_reducible refine (num_n c.x Rc.out.1 _).mono ?_); rintro e w1 ⟨vr0, rfl, hNr0, hb1⟩
    obtain ⟨mr0, adr0, nr0, cr0, rfl⟩ := hNr0.shape
    have HNr0 := Lib.hid hNr0
    clear hNr0
    go_wp2_with fail
    refine hK.out _ _ ?_ (fun q2 => ?_)
    · exact ⟨(id q1).1.below hb1, (id q1).2.1.below hb1, (id q1).2.2.1.below hb1, (id q1).2.2.2.below hb1⟩
    replace HR := Lib.hid (HR.out.below hb1)
    replace HT := Lib.hid (HT.out.below hb1)
    replace HN2 := Lib.hid (HN2.out.below hb1)
    clear hK K q1 hb1
    have q1 := q2
    clear q2
    try simp only [Act.put, x2, x3, x4, x5, x6, x7]
    refine r2 (i := 0) (j := 6) rfl (fun K hK => ?_) rfl (fun K hK => ?_)
    · obtain ⟨k0, k1⟩ := HT.out.two
      go_simp
      refine hK.out _ _ ?_ (fun q2 => ?_)
      · exact q1
      clear hK K q1 k0 k1
      have q1 := q2
      clear q2
      try simp only [Act.put, x2, x3, x4, x5, x6, x7]
      refine r1 (i := 6) rfl (fun K hK => ?_)
      go_simp
      go_at_call 117
      (with_reducible refine (num_n c.y Rc.out.2 _).mono ?_); rintro e w1 ⟨vr1, rfl, hNr1, hb1⟩
      obtain ⟨mr1, adr1, nr1, cr1, rfl⟩ := hNr1.shape
      have HNr1 := Lib.hid hNr1
      clear hNr1
      go_wp2_with fail
      refine hK.out _ _ ?_ (fun q2 => ?_)
      · exact ⟨(id q1).1.below hb1, (id q1).2.1.below hb1, (id q1).2.2.1.below hb1, (id q1).2.2.2.below hb1⟩
      replace HR := Lib.hid (HR.out.below hb1)
      replace HT := Lib.hid (HT.out.below hb1)
      replace HN2 := Lib.hid (HN2.out.below hb1)
      replace HNr0 := Lib.hid (HNr0.out.below hb1)
      clear hK K q1 hb1
      have q1 := q2
      clear q2
      try simp only [Act.put, x2, x3, x4, x5, x6, x7]
      refine r1 (i := 9) rfl (fun K hK => ?_)
      go_simp
      go_at_call 117
      (with_reducible refine (num_n a.x Ra.out.1 _).mono ?_); rintro e w1 ⟨vr2, rfl, hNr2, hb1⟩
      obtain ⟨mr2, adr2, nr2, cr2, rfl⟩ := hNr2.shape
      have HNr2 := Lib.hid hNr2
      clear hNr2
      go_wp2_with fail
      refine hK.out _ _ ?_ (fun q2 => ?_)
      · exact ⟨(id q1).1.below hb1, (id q1).2.1.below hb1, (id q1).2.2.1.below hb1, (id q1).2.2.2.below hb1⟩
      replace HR := Lib.hid (HR.out.below hb1)
      replace HT := Lib.hid (HT.out.below hb1)
      replace HN2 := Lib.hid (HN2.out.below hb1)
      replace HNr0 := Lib.hid (HNr0.out.below hb1)
      replace HNr1 := Lib.hid (HNr1.out.below hb1)
      clear hK K q1 hb1
      have q1 := q2
      clear q2
      try simp only [Act.put, x2, x3, x4, x5, x6, x7]
      refine r1 (i := 12) rfl (fun K hK => ?_)
      go_simp
      go_at_call 117
      (with_reducible refine (num_n a.y Ra.out.2 _).mono ?_); rintro e w1 ⟨vr3, rfl, hNr3, hb1⟩
      obtain ⟨mr3, adr3, nr3, cr3, rfl⟩ := hNr3.shape
      have HNr3 := Lib.hid hNr3
      clear hNr3
      go_wp2_with fail
      refine hK.out _ _ ?_ (fun q2 => ?_)
      · exact ⟨(id q1).1.below hb1, (id q1).2.1.below hb1, (id q1).2.2.1.below hb1, (id q1).2.2.2.below hb1⟩
      replace HR := Lib.hid (HR.out.below hb1)
      replace HT := Lib.hid (HT.out.below hb1)
      replace HN2 := Lib.hid (HN2.out.below hb1)
      replace HNr0 := Lib.hid (HNr0.out.below hb1)
      replace HNr1 := Lib.hid (HNr1.out.below hb1)
      replace HNr2 := Lib.hid (HNr2.out.below hb1)
      clear hK K q1 hb1
      have q1 := q2
      clear q2
      try simp only [Act.put, x2, x3, x4, x5, x6, x7]
      refine r1 (i := 13) rfl (fun K hK => ?_)
      go_simp
      go_at_call 116
      (with_reducible refine (det_n _ _ _ _ c.x c.y a.x a.y Zc.out.1 Zc.out.2 Za.out.1 Za.out.2 _ HNr0.out HNr1.out HNr2.out HNr3.out).mono ?_); rintro e w1 ⟨vrd, rfl, hNrd, hb1⟩
      obtain ⟨mrd, adrd, nrd, crd, rfl⟩ := hNrd.shape
      have HNrd := Lib.hid hNrd
      clear hNrd
      go_wp2_with fail
      refine hK.out _ _ ?_ (fun q2 => ?_)
      · exact ⟨(id q1).1.below hb1, (id q1).2.1.below hb1, (id q1).2.2.1.below hb1, (id q1).2.2.2.below hb1⟩
      replace HR := Lib.hid (HR.out.below hb1)
      replace HT := Lib.hid (HT.out.below hb1)
      replace HN2 := Lib.hid (HN2.out.below hb1)
      replace HNr0 := Lib.hid (HNr0.out.below hb1)
      replace HNr1 := Lib.hid (HNr1.out.below hb1)
      replace HNr2 := Lib.hid (HNr2.out.below hb1)
      replace HNr3 := Lib.hid (HNr3.out.below hb1)
      clear hK K q1 hb1
      have q1 := q2
      clear q2
      try simp only [Act.put, x2, x3, x4, x5, x6, x7]
      refine r1 (i := 14) rfl (fun K hK => ?_)
      go_simp
      go_at_call 96
      (with_reducible refine (plus_c _ _ (a.x * b.y - a.y * b.x + (b.x * c.y - b.y * c.x)) (c.x * a.y - c.y * a.x) _ HN2.out HNrd.out D3.out D2.out).mono ?_); rintro e w1 ⟨vrs, rfl, hNrs, hb1⟩
      obtain ⟨mrs, adrs, nrs, crs, rfl⟩ := hNrs.shape
      have HNrs := Lib.hid hNrs
      clear hNrs
      go_wp2_with fail
      refine hK.out _ _ ?_ (fun q2 => ?_)
      · exact ⟨(id q1).1.below hb1, (id q1).2.1.below hb1, (id q1).2.2.1.below hb1, (id q1).2.2.2.below hb1⟩
      replace HR := Lib.hid (HR.out.below hb1)
      replace HT := Lib.hid (HT.out.below hb1)
      replace HN2 := Lib.hid (HN2.out.below hb1)
      replace HNr0 := Lib.hid (HNr0.out.below hb1)
      replace HNr1 := Lib.hid (HNr1.out.below hb1)
      replace HNr2 := Lib.hid (HNr2.out.below hb1)
      replace HNr3 := Lib.hid (HNr3.out.below hb1)
      replace HNrd := Lib.hid (HNrd.out.below hb1)
      clear hK K q1 hb1
      have q1 := q2
      clear q2
      try simp only [Act.put, x2, x3, x4, x5, x6, x7]
      refine r1 (i := 15) rfl (fun K hK => ?_)
      obtain ⟨k0, k1⟩ := HR.out.two
      obtain ⟨f0, f1⟩ := HR.out.free2
      go_simp
      refine hK.out _ _ ?_ (fun q2 => ?_)
      · exact ⟨(((id q1).1.far (by dsimp only; omega) _).far (by dsimp only; omega) _), (((id q1).2.1.far (by dsimp only; omega) _).far (by dsimp only; omega) _), (((id q1).2.2.1.far (by dsimp only; omega) _).far (by dsimp only; omega) _), (((id q1).2.2.2.set (by dsimp only; omega) _).set (by dsimp only; omega) _)⟩
      replace HT := Lib.hid ((id q2).2.2.2.far2 HT.out (by dsimp only; omega) (by dsimp only; omega))
      replace HN2 := Lib.hid (HN2.out.res HR.out (mrs) (.slice adrs nrs crs))
      replace HNr0 := Lib.hid (HNr0.out.res HR.out (mrs) (.slice adrs nrs crs))
      replace HNr1 := Lib.hid (HNr1.out.res HR.out (mrs) (.slice adrs nrs crs))
      replace HNr2 := Lib.hid (HNr2.out.res HR.out (mrs) (.slice adrs nrs crs))
      replace HNr3 := Lib.hid (HNr3.out.res HR.out (mrs) (.slice adrs nrs crs))
      replace HNrd := Lib.hid (HNrd.out.res HR.out (mrs) (.slice adrs nrs crs))
      replace HNrs := Lib.hid (HNrs.out.res HR.out (mrs) (.slice adrs nrs crs))
      replace HR := Lib.hid (HR.out.set2 (.bool mrs) (.slice adrs nrs crs))
      clear hK K q1 k0 k1 f0 f1
      have q1 := q2
      clear q2
      try simp only [Act.put, x2, x3, x4, x5, x6, x7]
      refine wpAnyH_done (by kernel_rfl) ?_ _
      go_wp2_with fail
      obtain ⟨k0, k1⟩ := HR.out.two
      rw [HE.out] at HNrs
      refine bodyPost_ret (v := .agg #[.bool mrs, .slice adrs nrs crs]) (by simp [results, Tryz.results98, go_sem, k0, k1]; done) rfl ⟨_, rfl, HNrs.out, (id q1).2.2.2.hb⟩
    · go_simp
      go_at_call 117
      (with_reducible refine (num_n c.y Rc.out.2 _).mono ?_); rintro e w1 ⟨vr1, rfl, hNr1, hb1⟩
      obtain ⟨mr1, adr1, nr1, cr1, rfl⟩ := hNr1.shape
      have HNr1 := Lib.hid hNr1
      clear hNr1
      go_wp2_with fail
      refine hK.out _ _ ?_ (fun q2 => ?_)
      · exact ⟨(id q1).1.below hb1, (id q1).2.1.below hb1, (id q1).2.2.1.below hb1, (id q1).2.2.2.below hb1⟩
      replace HR := Lib.hid (HR.out.below hb1)
      replace HT := Lib.hid (HT.out.below hb1)
      replace HN2 := Lib.hid (HN2.out.below hb1)
      replace HNr0 := Lib.hid (HNr0.out.below hb1)
      clear hK K q1 hb1
      have q1 := q2
      clear q2
      try simp only [Act.put, x2, x3, x4, x5, x6, x7]
      refine r2 (i := 0) (j := 9) rfl (fun K hK => ?_) rfl (fun K hK => ?_)
      · obtain ⟨k0, k1⟩ := HT.out.two
        go_simp
        refine hK.out _ _ ?_ (fun q2 => ?_)
        · exact q1
        clear hK K q1 k0 k1
        have q1 := q2
        clear q2
        try simp only [Act.put, x2, x3, x4, x5, x6, x7]
        refine r1 (i := 9) rfl (fun K hK => ?_)
        go_simp
        go_at_call 117
        (with_reducible refine (num_n a.x Ra.out.1 _).mono ?_); rintro e w1 ⟨vr2, rfl, hNr2, hb1⟩
        obtain ⟨mr2, adr2, nr2, cr2, rfl⟩ := hNr2.shape
        have HNr2 := Lib.hid hNr2
        clear hNr2
        go_wp2_with fail
        refine hK.out _ _ ?_ (fun q2 => ?_)
        · exact ⟨(id q1).1.below hb1, (id q1).2.1.below hb1, (id q1).2.2.1.below hb1, (id q1).2.2.2.below hb1⟩
        replace HR := Lib.hid (HR.out.below hb1)
        replace HT := Lib.hid (HT.out.below hb1)
        replace HN2 := Lib.hid (HN2.out.below hb1)
        replace HNr0 := Lib.hid (HNr0.out.below hb1)
        replace HNr1 := Lib.hid (HNr1.out.below hb1)
        clear hK K q1 hb1
        have q1 := q2
        clear q2
        try simp only [Act.put, x2, x3, x4, x5, x6, x7]
        refine r1 (i := 12) rfl (fun K hK => ?_)
        go_simp
        go_at_call 117
        (with_reducible refine (num_n a.y Ra.out.2 _).mono ?_); rintro e w1 ⟨vr3, rfl, hNr3, hb1⟩
        obtain ⟨mr3, adr3, nr3, cr3, rfl⟩ := hNr3.shape
        have HNr3 := Lib.hid hNr3
        clear hNr3
        go_wp2_with fail
        refine hK.out _ _ ?_ (fun q2 => ?_)
        · exact ⟨(id q1).1.below hb1, (id q1).2.1.below hb1, (id q1).2.2.1.below hb1, (id q1).2.2.2.below hb1⟩
        replace HR := Lib.hid (HR.out.below hb1)
        replace HT := Lib.hid (HT.out.below hb1)
        replace HN2 := Lib.hid (HN2.out.below hb1)
        replace HNr0 := Lib.hid (HNr0.out.below hb1)
        replace HNr1 := Lib.hid (HNr1.out.below hb1)
        replace HNr2 := Lib.hid (HNr2.out.below hb1)
        clear hK K q1 hb1
        have q1 := q2
        clear q2
        try simp only [Act.put, x2, x3, x4, x5, x6, x7]
        refine r1 (i := 13) rfl (fun K hK => ?_)
        go_simp
        go_at_call 116
        (with_reducible refine (det_n _ _ _ _ c.x c.y a.x a.y Zc.out.1 Zc.out.2 Za.out.1 Za.out.2 _ HNr0.out HNr1.out HNr2.out HNr3.out).mono ?_); rintro e w1 ⟨vrd, rfl, hNrd, hb1⟩
        obtain ⟨mrd, adrd, nrd, crd, rfl⟩ := hNrd.shape
        have HNrd := Lib.hid hNrd
        clear hNrd
        go_wp2_with fail
        refine hK.out _ _ ?_ (fun q2 => ?_)
        · exact ⟨(id q1).1.below hb1, (id q1).2.1.below hb1, (id q1).2.2.1.below hb1, (id q1).2.2.2.below hb1⟩
        replace HR := Lib.hid (HR.out.below hb1)
        replace HT := Lib.hid (HT.out.below hb1)
        replace HN2 := Lib.hid (HN2.out.below hb1)
        replace HNr0 := Lib.hid (HNr0.out.below hb1)
        replace HNr1 := Lib.hid (HNr1.out.below hb1)
        replace HNr2 := Lib.hid (HNr2.out.below hb1)
        replace HNr3 := Lib.hid (HNr3.out.below hb1)
        clear hK K q1 hb1
        have q1 := q2
        clear q2
        try simp only [Act.put, x2, x3, x4, x5, x6, x7]
        refine r1 (i := 14) rfl (fun K hK => ?_)
        go_simp
        go_at_call 96
        (with_reducible refine (plus_c _ _ (a.x * b.y - a.y * b.x + (b.x * c.y - b.y * c.x)) (c.x * a.y - c.y * a.x) _ HN2.out HNrd.out D3.out D2.out).mono ?_); rintro e w1 ⟨vrs, rfl, hNrs, hb1⟩
        obtain ⟨mrs, adrs, nrs, crs, rfl⟩ := hNrs.shape
        have HNrs := Lib.hid hNrs
        clear hNrs
        go_wp2_with fail
        refine hK.out _ _ ?_ (fun q2 => ?_)
        · exact ⟨(id q1).1.below hb1, (id q1).2.1.below hb1, (id q1).2.2.1.below hb1, (id q1).2.2.2.below hb1⟩
        replace HR := Lib.hid (HR.out.below hb1)
        replace HT := Lib.hid (HT.out.below hb1)
        replace HN2 := Lib.hid (HN2.out.below hb1)
        replace HNr0 := Lib.hid (HNr0.out.below hb1)
        replace HNr1 := Lib.hid (HNr1.out.below hb1)
        replace HNr2 := Lib.hid (HNr2.out.below hb1)
        replace HNr3 := Lib.hid (HNr3.out.below hb1)
        replace HNrd := Lib.hid (HNrd.out.below hb1)
        clear hK K q1 hb1
        have q1 := q2
        clear q2
        try simp only [Act.put, x2, x3, x4, x5, x6, x7]
        refine r1 (i := 15) rfl (fun K hK => ?_)
        obtain ⟨k0, k1⟩ := HR.out.two
        obtain ⟨f0, f1⟩ := HR.out.free2
        go_simp
        refine hK.out _ _ ?_ (fun q2 => ?_)
        · exact ⟨(((id q1).1.far (by dsimp only; omega) _).far (by dsimp only; omega) _), (((id q1).2.1.far (by dsimp only; omega) _).far (by dsimp only; omega) _), (((id q1).2.2.1.far (by dsimp only; omega) _).far (by dsimp only; omega) _), (((id q1).2.2.2.set (by dsimp only; omega) _).set (by dsimp only; omega) _)⟩
        replace HT := Lib.hid ((id q2).2.2.2.far2 HT.out (by dsimp only; omega) (by dsimp only; omega))
        replace HN2 := Lib.hid (HN2.out.res HR.out (mrs) (.slice adrs nrs crs))
        replace HNr0 := Lib.hid (HNr0.out.res HR.out (mrs) (.slice adrs nrs crs))
        replace HNr1 := Lib.hid (HNr1.out.res HR.out (mrs) (.slice adrs nrs crs))
        replace HNr2 := Lib.hid (HNr2.out.res HR.out (mrs) (.slice adrs nrs crs))
        replace HNr3 := Lib.hid (HNr3.out.res HR.out (mrs) (.slice adrs nrs crs))
        replace HNrd := Lib.hid (HNrd.out.res HR.out (mrs) (.slice adrs nrs crs))
        replace HNrs := Lib.hid (HNrs.out.res HR.out (mrs) (.slice adrs nrs crs))
        replace HR := Lib.hid (HR.out.set2 (.bool mrs) (.slice adrs nrs crs))
        clear hK K q1 k0 k1 f0 f1
        have q1 := q2
        clear q2
        try simp only [Act.put, x2, x3, x4, x5, x6, x7]
        refine wpAnyH_done (by kernel_rfl) ?_ _
        go_wp2_with fail
        obtain ⟨k0, k1⟩ := HR.out.two
        rw [HE.out] at HNrs
        refine bodyPost_ret (v := .agg #[.bool mrs, .slice adrs nrs crs]) (by simp [results, Tryz.results98, go_sem, k0, k1]; done) rfl ⟨_, rfl, HNrs.out, (id q1).2.2.2.hb⟩
      · go_simp
        go_at_call 117
        (with_reducible refine (num_n a.x Ra.out.1 _).mono ?_); rintro e w1 ⟨vr2, rfl, hNr2, hb1⟩
        obtain ⟨mr2, adr2, nr2, cr2, rfl⟩ := hNr2.shape
        have HNr2 := Lib.hid hNr2
        clear hNr2
        go_wp2_with fail
        refine hK.out _ _ ?_ (fun q2 => ?_)
        · exact ⟨(id q1).1.below hb1, (id q1).2.1.below hb1, (id q1).2.2.1.below hb1, (id q1).2.2.2.below hb1⟩
        replace HR := Lib.hid (HR.out.below hb1)
        replace HT := Lib.hid (HT.out.below hb1)
        replace HN2 := Lib.hid (HN2.out.below hb1)
        replace HNr0 := Lib.hid (HNr0.out.below hb1)
        replace HNr1 := Lib.hid (HNr1.out.below hb1)
        clear hK K q1 hb1
        have q1 := q2
        clear q2
        try simp only [Act.put, x2, x3, x4, x5, x6, x7]
        refine r2 (i := 0) (j := 12) rfl (fun K hK => ?_) rfl (fun K hK => ?_)
        · obtain ⟨k0, k1⟩ := HT.out.two
          go_simp
          refine hK.out _ _ ?_ (fun q2 => ?_)
          · exact q1
          clear hK K q1 k0 k1
          have q1 := q2
          clear q2
          try simp only [Act.put, x2, x3, x4, x5, x6, x7]
          refine r1 (i := 12) rfl (fun K hK => ?_)
          go_simp
          go_at_call 117
          (with_reducible refine (num_n a.y Ra.out.2 _).mono ?_); rintro e w1 ⟨vr3, rfl, hNr3, hb1⟩
          obtain ⟨mr3, adr3, nr3, cr3, rfl⟩ := hNr3.shape
          have HNr3 := Lib.hid hNr3
          clear hNr3
          go_wp2_with fail
          refine hK.out _ _ ?_ (fun q2 => ?_)
          · exact ⟨(id q1).1.below hb1, (id q1).2.1.below hb1, (id q1).2.2.1.below hb1, (id q1).2.2.2.below hb1⟩
          replace HR := Lib.hid (HR.out.below hb1)
          replace HT := Lib.hid (HT.out.below hb1)
          replace HN2 := Lib.hid (HN2.out.below hb1)
          replace HNr0 := Lib.hid (HNr0.out.below hb1)
          replace HNr1 := Lib.hid (HNr1.out.below hb1)
          replace HNr2 := Lib.hid (HNr2.out.below hb1)
          clear hK K q1 hb1
          have q1 := q2
          clear q2
          try simp only [Act.put, x2, x3, x4, x5, x6, x7]
          refine r1 (i := 13) rfl (fun K hK => ?_)
          go_simp
          go_at_call 116
          (with_reducible refine (det_n _ _ _ _ c.x c.y a.x a.y Zc.out.1 Zc.out.2 Za.out.1 Za.out.2 _ HNr0.out HNr1.out HNr2.out HNr3.out).mono ?_); rintro e w1 ⟨vrd, rfl, hNrd, hb1⟩
          obtain ⟨mrd, adrd, nrd, crd, rfl⟩ := hNrd.shape
          have HNrd := Lib.hid hNrd
          clear hNrd
          go_wp2_with fail
          refine hK.out _ _ ?_ (fun q2 => ?_)
          · exact ⟨(id q1).1.below hb1, (id q1).2.1.below hb1, (id q1).2.2.1.below hb1, (id q1).2.2.2.below hb1⟩
          replace HR := Lib.hid (HR.out.below hb1)
          replace HT := Lib.hid (HT.out.below hb1)
          replace HN2 := Lib.hid (HN2.out.below hb1)
          replace HNr0 := Lib.hid (HNr0.out.below hb1)
          replace HNr1 := Lib.hid (HNr1.out.below hb1)
          replace HNr2 := Lib.hid (HNr2.out.below hb1)
          replace HNr3 := Lib.hid (HNr3.out.below hb1)
          clear hK K q1 hb1
          have q1 := q2
          clear q2
          try simp only [Act.put, x2, x3, x4, x5, x6, x7]
          refine r1 (i := 14) rfl (fun K hK => ?_)
          go_simp
          go_at_call 96
          (with_reducible refine (plus_c _ _ (a.x * b.y - a.y * b.x + (b.x * c.y - b.y * c.x)) (c.x * a.y - c.y * a.x) _ HN2.out HNrd.out D3.out D2.out).mono ?_); rintro e w1 ⟨vrs, rfl, hNrs, hb1⟩
          obtain ⟨mrs, adrs, nrs, crs, rfl⟩ := hNrs.shape
          have HNrs := Lib.hid hNrs
          clear hNrs
          go_wp2_with fail
          refine hK.out _ _ ?_ (fun q2 => ?_)
          · exact ⟨(id q1).1.below hb1, (id q1).2.1.below hb1, (id q1).2.2.1.below hb1, (id q1).2.2.2.below hb1⟩
          replace HR := Lib.hid (HR.out.below hb1)
          replace HT := Lib.hid (HT.out.below hb1)
          replace HN2 := Lib.hid (HN2.out.below hb1)
          replace HNr0 := Lib.hid (HNr0.out.below hb1)
          replace HNr1 := Lib.hid (HNr1.out.below hb1)
          replace HNr2 := Lib.hid (HNr2.out.below hb1)
          replace HNr3 := Lib.hid (HNr3.out.below hb1)
          replace HNrd := Lib.hid (HNrd.out.below hb1)
          clear hK K q1 hb1
          have q1 := q2
          clear q2
          try simp only [Act.put, x2, x3, x4, x5, x6, x7]
          refine r1 (i := 15) rfl (fun K hK => ?_)
          obtain ⟨k0, k1⟩ := HR.out.two
          obtain ⟨f0, f1⟩ := HR.out.free2
          go_simp
          refine hK.out _ _ ?_ (fun q2 => ?_)
          · exact ⟨(((id q1).1.far (by dsimp only; omega) _).far (by dsimp only; omega) _), (((id q1).2.1.far (by dsimp only; omega) _).far (by dsimp only; omega) _), (((id q1).2.2.1.far (by dsimp only; omega) _).far (by dsimp only; omega) _), (((id q1).2.2.2.set (by dsimp only; omega) _).set (by dsimp only; omega) _)⟩
          replace HT := Lib.hid ((id q2).2.2.2.far2 HT.out (by dsimp only; omega) (by dsimp only; omega))
          replace HN2 := Lib.hid (HN2.out.res HR.out (mrs) (.slice adrs nrs crs))
          replace HNr0 := Lib.hid (HNr0.out.res HR.out (mrs) (.slice adrs nrs crs))
          replace HNr1 := Lib.hid (HNr1.out.res HR.out (mrs) (.slice adrs nrs crs))
          replace HNr2 := Lib.hid (HNr2.out.res HR.out (mrs) (.slice adrs nrs crs))
          replace HNr3 := Lib.hid (HNr3.out.res HR.out (mrs) (.slice adrs nrs crs))
          replace HNrd := Lib.hid (HNrd.out.res HR.out (mrs) (.slice adrs nrs crs))
          replace HNrs := Lib.hid (HNrs.out.res HR.out (mrs) (.slice adrs nrs crs))
          replace HR := Lib.hid (HR.out.set2 (.bool mrs) (.slice adrs nrs crs))
          clear hK K q1 k0 k1 f0 f1
          have q1 := q2
          clear q2
          try simp only [Act.put, x2, x3, x4, x5, x6, x7]
          refine wpAnyH_done (by kernel_rfl) ?_ _
          go_wp2_with fail
          obtain ⟨k0, k1⟩ := HR.out.two
          rw [HE.out] at HNrs
          refine bodyPost_ret (v := .agg #[.bool mrs, .slice adrs nrs crs]) (by simp [results, Tryz.results98, go_sem, k0, k1]; done) rfl ⟨_, rfl, HNrs.out, (id q1).2.2.2.hb⟩
        · go_simp
          go_at_call 117
          (with_reducible refine (num_n a.y Ra.out.2 _).mono ?_); rintro e w1 ⟨vr3, rfl, hNr3, hb1⟩
          obtain ⟨mr3, adr3, nr3, cr3, rfl⟩ := hNr3.shape
          have HNr3 := Lib.hid hNr3
          clear hNr3
          go_wp2_with fail
          refine hK.out _ _ ?_ (fun q2 => ?_)
          · exact ⟨(id q1).1.below hb1, (id q1).2.1.below hb1, (id q1).2.2.1.below hb1, (id q1).2.2.2.below hb1⟩
          replace HR := Lib.hid (HR.out.below hb1)
          replace HT := Lib.hid (HT.out.below hb1)
          replace HN2 := Lib.hid (HN2.out.below hb1)
          replace HNr0 := Lib.hid (HNr0.out.below hb1)
          replace HNr1 := Lib.hid (HNr1.out.below hb1)
          replace HNr2 := Lib.hid (HNr2.out.below hb1)
          clear hK K q1 hb1
          have q1 := q2
          clear q2
          try simp only [Act.put, x2, x3, x4, x5, x6, x7]
          refine r2 (i := 0) (j := 13) rfl (fun K hK => ?_) rfl (fun K hK => ?_)
          · obtain ⟨k0, k1⟩ := HT.out.two
            go_simp
            refine hK.out _ _ ?_ (fun q2 => ?_)
            · exact q1
            clear hK K q1 k0 k1
            have q1 := q2
            clear q2
            try simp only [Act.put, x2, x3, x4, x5, x6, x7]
            refine r1 (i := 13) rfl (fun K hK => ?_)
            go_simp
            go_at_call 116
            (with_reducible refine (det_n _ _ _ _ c.x c.y a.x a.y Zc.out.1 Zc.out.2 Za.out.1 Za.out.2 _ HNr0.out HNr1.out HNr2.out HNr3.out).mono ?_); rintro e w1 ⟨vrd, rfl, hNrd, hb1⟩
            obtain ⟨mrd, adrd, nrd, crd, rfl⟩ := hNrd.shape
            have HNrd := Lib.hid hNrd
            clear hNrd
            go_wp2_with fail
            refine hK.out _ _ ?_ (fun q2 => ?_)
            · exact ⟨(id q1).1.below hb1, (id q1).2.1.below hb1, (id q1).2.2.1.below hb1, (id q1).2.2.2.below hb1⟩
            replace HR := Lib.hid (HR.out.below hb1)
            replace HT := Lib.hid (HT.out.below hb1)
            replace HN2 := Lib.hid (HN2.out.below hb1)
            replace HNr0 := Lib.hid (HNr0.out.below hb1)
            replace HNr1 := Lib.hid (HNr1.out.below hb1)
            replace HNr2 := Lib.hid (HNr2.out.below hb1)
            replace HNr3 := Lib.hid (HNr3.out.below hb1)
            clear hK K q1 hb1
            have q1 := q2
            clear q2
            try simp only [Act.put, x2, x3, x4, x5, x6, x7]
            refine r1 (i := 14) rfl (fun K hK => ?_)
            go_simp
            go_at_call 96
            (with_reducible refine (plus_c _ _ (a.x * b.y - a.y * b.x + (b.x * c.y - b.y * c.x)) (c.x * a.y - c.y * a.x) _ HN2.out HNrd.out D3.out D2.out).mono ?_); rintro e w1 ⟨vrs, rfl, hNrs, hb1⟩
            obtain ⟨mrs, adrs, nrs, crs, rfl⟩ := hNrs.shape
            have HNrs := Lib.hid hNrs
            clear hNrs
            go_wp2_with fail
            refine hK.out _ _ ?_ (fun q2 => ?_)
            · exact ⟨(id q1).1.below hb1, (id q1).2.1.below hb1, (id q1).2.2.1.below hb1, (id q1).2.2.2.below hb1⟩
            replace HR := Lib.hid (HR.out.below hb1)
            replace HT := Lib.hid (HT.out.below hb1)
            replace HN2 := Lib.hid (HN2.out.below hb1)
            replace HNr0 := Lib.hid (HNr0.out.below hb1)
            replace HNr1 := Lib.hid (HNr1.out.below hb1)
            replace HNr2 := Lib.hid (HNr2.out.below hb1)
            replace HNr3 := Lib.hid (HNr3.out.below hb1)
            replace HNrd := Lib.hid (HNrd.out.below hb1)
            clear hK K q1 hb1
            have q1 := q2
            clear q2
            try simp only [Act.put, x2, x3, x4, x5, x6, x7]
            refine r1 (i := 15) rfl (fun K hK => ?_)
            obtain ⟨k0, k1⟩ := HR.out.two
            obtain ⟨f0, f1⟩ := HR.out.free2
            go_simp
            refine hK.out _ _ ?_ (fun q2 => ?_)
            · exact ⟨(((id q1).1.far (by dsimp only; omega) _).far (by dsimp only; omega) _), (((id q1).2.1.far (by dsimp only; omega) _).far (by dsimp only; omega) _), (((id q1).2.2.1.far (by dsimp only; omega) _).far (by dsimp only; omega) _), (((id q1).2.2.2.set (by dsimp only; omega) _).set (by dsimp only; omega) _)⟩
            replace HT := Lib.hid ((id q2).2.2.2.far2 HT.out (by dsimp only; omega) (by dsimp only; omega))
            replace HN2 := Lib.hid (HN2.out.res HR.out (mrs) (.slice adrs nrs crs))
            replace HNr0 := Lib.hid (HNr0.out.res HR.out (mrs) (.slice adrs nrs crs))
            replace HNr1 := Lib.hid (HNr1.out.res HR.out (mrs) (.slice adrs nrs crs))
            replace HNr2 := Lib.hid (HNr2.out.res HR.out (mrs) (.slice adrs nrs crs))
            replace HNr3 := Lib.hid (HNr3.out.res HR.out (mrs) (.slice adrs nrs crs))
            replace HNrd := Lib.hid (HNrd.out.res HR.out (mrs) (.slice adrs nrs crs))
            replace HNrs := Lib.hid (HNrs.out.res HR.out (mrs) (.slice adrs nrs crs))
            replace HR := Lib.hid (HR.out.set2 (.bool mrs) (.slice adrs nrs crs))
            clear hK K q1 k0 k1 f0 f1
            have q1 := q2
            clear q2
            try simp only [Act.put, x2, x3, x4, x5, x6, x7]
            refine wpAnyH_done (by kernel_rfl) ?_ _
            go_wp2_with fail
            obtain ⟨k0, k1⟩ := HR.out.two
            rw [HE.out] at HNrs
            refine bodyPost_ret (v := .agg #[.bool mrs, .slice adrs nrs crs]) (by simp [results, Tryz.results98, go_sem, k0, k1]; done) rfl ⟨_, rfl, HNrs.out, (id q1).2.2.2.hb⟩
          · go_simp
            go_at_call 116
            (with_reducible refine (det_n _ _ _ _ c.x c.y a.x a.y Zc.out.1 Zc.out.2 Za.out.1 Za.out.2 _ HNr0.out HNr1.out HNr2.out HNr3.out).mono ?_); rintro e w1 ⟨vrd, rfl, hNrd, hb1⟩
            obtain ⟨mrd, adrd, nrd, crd, rfl⟩ := hNrd.shape
            have HNrd := Lib.hid hNrd
            clear hNrd
            go_wp2_with fail
            refine hK.out _ _ ?_ (fun q2 => ?_)
            · exact ⟨(id q1).1.below hb1, (id q1).2.1.below hb1, (id q1).2.2.1.below hb1, (id q1).2.2.2.below hb1⟩
            replace HR := Lib.hid (HR.out.below hb1)
            replace HT := Lib.hid (HT.out.below hb1)
            replace HN2 := Lib.hid (HN2.out.below hb1)
            replace HNr0 := Lib.hid (HNr0.out.below hb1)
            replace HNr1 := Lib.hid (HNr1.out.below hb1)
            replace HNr2 := Lib.hid (HNr2.out.below hb1)
            replace HNr3 := Lib.hid (HNr3.out.below hb1)
            clear hK K q1 hb1
            have q1 := q2
            clear q2
            try simp only [Act.put, x2, x3, x4, x5, x6, x7]
            refine r1 (i := 0) rfl (fun K hK => ?_)
            obtain ⟨k0, k1⟩ := HT.out.two
            go_simp
            refine hK.out _ _ ?_ (fun q2 => ?_)
            · exact q1
            clear hK K q1 k0 k1
            have q1 := q2
            clear q2
            try simp only [Act.put, x2, x3, x4, x5, x6, x7]
            refine r1 (i := 14) rfl (fun K hK => ?_)
            go_simp
            go_at_call 96
            (with_reducible refine (plus_c _ _ (a.x * b.y - a.y * b.x + (b.x * c.y - b.y * c.x)) (c.x * a.y - c.y * a.x) _ HN2.out HNrd.out D3.out D2.out).mono ?_); rintro e w1 ⟨vrs, rfl, hNrs, hb1⟩
            obtain ⟨mrs, adrs, nrs, crs, rfl⟩ := hNrs.shape
            have HNrs := Lib.hid hNrs
            clear hNrs
            go_wp2_with fail
            refine hK.out _ _ ?_ (fun q2 => ?_)
            · exact ⟨(id q1).1.below hb1, (id q1).2.1.below hb1, (id q1).2.2.1.below hb1, (id q1).2.2.2.below hb1⟩
            replace HR := Lib.hid (HR.out.below hb1)
            replace HT := Lib.hid (HT.out.below hb1)
            replace HN2 := Lib.hid (HN2.out.below hb1)
            replace HNr0 := Lib.hid (HNr0.out.below hb1)
            replace HNr1 := Lib.hid (HNr1.out.below hb1)
            replace HNr2 := Lib.hid (HNr2.out.below hb1)
            replace HNr3 := Lib.hid (HNr3.out.below hb1)
            replace HNrd := Lib.hid (HNrd.out.below hb1)
            clear hK K q1 hb1
            have q1 := q2
            clear q2
            try simp only [Act.put, x2, x3, x4, x5, x6, x7]
            refine r1 (i := 15) rfl (fun K hK => ?_)
            obtain ⟨k0, k1⟩ := HR.out.two
            obtain ⟨f0, f1⟩ := HR.out.free2
            go_simp
            refine hK.out _ _ ?_ (fun q2 => ?_)
            · exact ⟨(((id q1).1.far (by dsimp only; omega) _).far (by dsimp only; omega) _), (((id q1).2.1.far (by dsimp only; omega) _).far (by dsimp only; omega) _), (((id q1).2.2.1.far (by dsimp only; omega) _).far (by dsimp only; omega) _), (((id q1).2.2.2.set (by dsimp only; omega) _).set (by dsimp only; omega) _)⟩
            replace HT := Lib.hid ((id q2).2.2.2.far2 HT.out (by dsimp only; omega) (by dsimp only; omega))
            replace HN2 := Lib.hid (HN2.out.res HR.out (mrs) (.slice adrs nrs crs))
            replace HNr0 := Lib.hid (HNr0.out.res HR.out (mrs) (.slice adrs nrs crs))
            replace HNr1 := Lib.hid (HNr1.out.res HR.out (mrs) (.slice adrs nrs crs))
            replace HNr2 := Lib.hid (HNr2.out.res HR.out (mrs) (.slice adrs nrs crs))
            replace HNr3 := Lib.hid (HNr3.out.res HR.out (mrs) (.slice adrs nrs crs))
            replace HNrd := Lib.hid (HNrd.out.res HR.out (mrs) (.slice adrs nrs crs))
            replace HNrs := Lib.hid (HNrs.out.res HR.out (mrs) (.slice adrs nrs crs))
            replace HR := Lib.hid (HR.out.set2 (.bool mrs) (.slice adrs nrs crs))
            clear hK K q1 k0 k1 f0 f1
            have q1 := q2
            clear q2
            try simp only [Act.put, x2, x3, x4, x5, x6, x7]
            refine wpAnyH_done (by kernel_rfl) ?_ _
            go_wp2_with fail
            obtain ⟨k0, k1⟩ := HR.out.two
            rw [HE.out] at HNrs
            refine bodyPost_ret (v := .agg #[.bool mrs, .slice adrs nrs crs]) (by simp [results, Tryz.results98, go_sem, k0, k1]; done) rfl ⟨_, rfl, HNrs.out, (id q1).2.2.2.hb⟩
end Go.Proofs.YtpjaefcmaiimlaaGreat

/-
  Contract of the document's Orient.
-/
namespace Go.Proofs.YtpjaefcmaiimlaaGreat
open Go.RowKit

set_option maxHeartbeats 2000000 in
set_option maxRecDepth 100000 in
theorem refOrient_l (a b c : Pt) (w : World) : Calls Tryz.prog 73 #[.agg #[.int .i64 a.x, .int .i64 a.y], .agg #[.int .i64 b.x, .int .i64 b.y], .agg #[.int .i64 c.x, .int .i64 c.y]] w (Gives (.int .i64 (orientZ a b c)) w) := by
  have C1 := Lib.hid (fun W => refFits3_l a W)
  have C2 := Lib.hid (fun W => refFits3_l b W)
  have C3 := Lib.hid (fun W => refFits3_l c W)
  have HZ : Hid (orientZ a b c = if fitB a && fitB b && fitB c then sg3 (crossZ a b c) else 0) := rfl
  have WA : Hid (fitB a = true → a.wf) := fun h => (fitB_iff.1 h).wf
  have WB : Hid (fitB b = true → b.wf) := fun h => (fitB_iff.1 h).wf
  have WC : Hid (fitB c = true → c.wf) := fun h => (fitB_iff.1 h).wf
  generalize fitB a = fa at *
  generalize fitB b = fb at *
  generalize fitB c = fc at *
  go_enter Tryz.func73, Tryz.ntmps73
  go_upto_region 1 with (fail)
  refine wp_abs (fun W => Var W w.heap.size [.int .i64 a.x, .int .i64 a.y] ∧ Var W (w.heap.size + 1) [.int .i64 b.x, .int .i64 b.y] ∧ Var W (w.heap.size + 1 + 1) [.int .i64 c.x, .int .i64 c.y] ∧ Grew w 3 W) ?_ ?_
  · exact ⟨(var2_new _ _ _ _ _ rfl).below (bl_alloc (bl_one _ _) _), (var2_new _ _ _ _ _ (by simp)).below (bl_one _ _), var2_new _ _ _ _ _ (by simp), by repeat (first | (with_reducible exact Below.refl _ _) | (with_reducible refine bl_alloc ?_ _) | (with_reducible refine Below.drew ?_) | (with_reducible refine below_drewN' ?_ _) | ((with_reducible refine bl_set ?_ ?_ _); (rotate_left; (dsimp only; omega)))), by simp⟩
  rintro W0 ⟨v1, v2, v3, hG⟩
  have HV := Lib.hid (And.intro v1 (And.intro v2 (And.intro v3 hG)))
  obtain ⟨c0, c1⟩ := v1.two
  obtain ⟨c2, c3⟩ := v2.two
  obtain ⟨c4, c5⟩ := v3.two
  clear v1 v2 v3 hG
  go_wp2_with fail
  (with_reducible refine (C1.out _).mono ?_); rintro e w1 ⟨rfl, hb1⟩
  replace HV := Lib.hid (And.intro (HV.out.1.below hb1) (And.intro (HV.out.2.1.below hb1) (And.intro (HV.out.2.2.1.below hb1) (HV.out.2.2.2.below hb1))))
  clear c0 c1 c2 c3 c4 c5 hb1
  obtain ⟨c0, c1⟩ := HV.out.1.two
  obtain ⟨c2, c3⟩ := HV.out.2.1.two
  obtain ⟨c4, c5⟩ := HV.out.2.2.1.two
  cases fa
  case false =>
    go_wp2
    go_ret
    exact ⟨by rw [HZ.out]; rfl, HV.out.2.2.2.hb⟩
  case true =>
  go_wp2_with fail
  (with_reducible refine (C2.out _).mono ?_); rintro e w1 ⟨rfl, hb1⟩
  replace HV := Lib.hid (And.intro (HV.out.1.below hb1) (And.intro (HV.out.2.1.below hb1) (And.intro (HV.out.2.2.1.below hb1) (HV.out.2.2.2.below hb1))))
  clear c0 c1 c2 c3 c4 c5 hb1
  obtain ⟨c0, c1⟩ := HV.out.1.two
  obtain ⟨c2, c3⟩ := HV.out.2.1.two
  obtain ⟨c4, c5⟩ := HV.out.2.2.1.two
  cases fb
  case false =>
    go_wp2
    go_ret
    exact ⟨by rw [HZ.out]; rfl, HV.out.2.2.2.hb⟩
  case true =>
  go_wp2_with fail
  (with_reducible refine (C3.out _).mono ?_); rintro e w1 ⟨rfl, hb1⟩
  replace HV := Lib.hid (And.intro (HV.out.1.below hb1) (And.intro (HV.out.2.1.below hb1) (And.intro (HV.out.2.2.1.below hb1) (HV.out.2.2.2.below hb1))))
  clear c0 c1 c2 c3 c4 c5 hb1
  obtain ⟨c0, c1⟩ := HV.out.1.two
  obtain ⟨c2, c3⟩ := HV.out.2.1.two
  obtain ⟨c4, c5⟩ := HV.out.2.2.1.two
  cases fc
  case false =>
    go_wp2
    go_ret
    exact ⟨by rw [HZ.out]; rfl, HV.out.2.2.2.hb⟩
  case true =>
  go_wp2_with fail
  (with_reducible refine (area_n a b c (WA.out (by first | rfl | trivial)) (WB.out (by first | rfl | trivial)) (WC.out (by first | rfl | trivial)) _).mono ?_)
  rintro e w1 ⟨v, rfl, hN, hb1⟩
  have HN := Lib.hid hN
  have HG := Lib.hid (HV.out.2.2.2.below hb1)
  clear c0 c1 c2 c3 c4 c5 hb1 hN HV
  go_wp2_with fail
  (with_reducible refine (sign_num v _ _ HN.out).mono ?_)
  rintro e w2 ⟨rfl, hb2⟩
  go_wp2
  go_ret
  exact ⟨by rw [HZ.out]; rfl, (HG.out.below hb2).hb⟩
end Go.Proofs.YtpjaefcmaiimlaaGreat
