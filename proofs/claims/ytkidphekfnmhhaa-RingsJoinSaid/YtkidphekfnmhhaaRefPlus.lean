/-
  Contract of the document's side: Plus.
-/
import Derived.Test.YtkidphekfnmhhaaNumMath
import Derived.Deep.DeepCutAuto
namespace Go.Proofs.Ytkidphekfnmhhaa
open Go.RowKit

theorem size_num {W : World} {ad ad' : Option Addr} {n k c c' : Nat} {f h : Nat → Int} (d1 : DigAt W ad n c f) (d2 : DigAt W ad' k c' h) (hn : n ≤ 100) (hk : k ≤ 100) :
    Calls Try.prog 71 #[.slice ad n c, .slice ad' k c'] W fun e w' => ∃ r, SizeIs f h n k r ∧ e = .returned (.int .i64 r) ∧ Below W.heap.size W w' := by
  by_cases hne : n = k
  · subst hne
    rcases d1.mem with h0 | ⟨g, rfl, a1, a2, a3, a4⟩
    · subst h0; exact size_zero ad ad' c c' f h W
    · rcases d2.mem with h0 | ⟨g', rfl, b1, b2, b3, b4⟩
      · subst h0; exact size_zero _ ad' c c' f h W
      · exact size_eq g g' c c' n f h d1.bd d2.bd a1 b1 a2 b2 W a3 b3 a4 b4
  · exact size_ne ad ad' c c' n k f h (by omega) (by omega) hne W
theorem digit_num {W : World} {ad : Option Addr} {n c : Nat} {f : Nat → Int} (d1 : DigAt W ad n c f) (i : Nat) :
    Calls Try.prog 70 #[.slice ad n c, .int .i64 i] W fun e w' => e = .returned (.int .i64 (f i)) ∧ Below W.heap.size W w' := by
  rcases Nat.lt_or_ge i n with h | h
  · rcases d1.mem with h0 | ⟨g, rfl, a1, a2, a3, a4⟩
    · omega
    · exact digit_in g c n i (f i) h a1 a2 W (a4.out i h)
  · rw [d1.hi i h]; exact digit_out ad c n i h W

theorem Rw.kept {B : Nat} {w W W' : World} {v : Value} {ds : List Int} (h : Rw B w v ds W) (hb : Below W.heap.size W W') : Rw B w v ds W' :=
  ⟨by
    obtain ⟨h1, h2⟩ := h.own
    refine ⟨h1, ?_⟩
    rcases h2 with h2 | ⟨g, cap, cur, e1, h3, h4, h5⟩
    · exact .inl h2
    · exact .inr ⟨g, cap, cur, e1, h3, (hb.block g (Array.getElem?_eq_some_iff.1 h4).1).trans h4, h5⟩, h.hb.trans (hb.mono h.sz), Nat.le_trans h.sz hb.size⟩
theorem DigAt.far {W : World} {ad : Option Addr} {n cap : Nat} {f : Nat → Int} (h : DigAt W ad n cap f) {b : Nat} {x : Bool} (hc : W.cell? ⟨b, 0, none⟩ = some (.bool x)) (o : Nat) (v : Value) : DigAt (W.setCell ⟨b, o, none⟩ v) ad n cap f := by
  refine ⟨h.bd, h.hi, h.top, ?_⟩
  rcases h.mem with h | ⟨g, e, h1, h2, h3, h4⟩
  · exact .inl h
  · rcases Nat.eq_zero_or_pos n with h0 | h0
    · exact .inl h0
    · refine .inr ⟨g, e, h1, h2, by simpa using h3, fun j hj => (World.cell?_setCell_far _ _ _ _ ?_).trans (h4.out j hj)⟩
      rintro rfl
      have := h4.out 0 h0
      rw [hc] at this
      cases this
/-- what a call answers is laid into its own variable -/
theorem DigAt.res {W : World} {ad : Option Addr} {n cap : Nat} {f : Nat → Int} (h : DigAt W ad n cap f) {b : Nat} {x : Bool} (hc : W.cell? ⟨b, 0, none⟩ = some (.bool x)) (y : Bool) (v : Value) : DigAt ((W.setCell ⟨b, 0, none⟩ (.bool y)).setCell ⟨b, 1, none⟩ v) ad n cap f :=
  (h.far hc 0 _).far (World.cell?_setCell_same _ _ _ hc) 1 _
/-- digits in a list -/
def Bd (ds : List Int) : Prop := ∀ j, 0 ≤ ds.getD j 0 ∧ ds.getD j 0 < 65536
def lval (ds : List Int) : Int := dval (fun j => ds.getD j 0) ds.length
theorem bd_nil : Bd [] := fun j => by simp
theorem getD_snoc (ds : List Int) (x : Int) (j : Nat) : (ds ++ [x]).getD j 0 = if j < ds.length then ds.getD j 0 else if j = ds.length then x else 0 := by
  rw [List.getD_eq_getElem?_getD, List.getD_eq_getElem?_getD, List.getElem?_append]
  split
  · rfl
  · split
    · rename_i h; rw [h]; simp
    · rename_i h1 h2
      rw [List.getElem?_eq_none (by simp; omega)]; rfl
theorem bd_snoc {ds : List Int} {x : Int} (h : Bd ds) (h0 : 0 ≤ x) (h1 : x < 65536) : Bd (ds ++ [x]) := by
  intro j
  rw [getD_snoc]
  have := h j
  split
  · exact this
  · split <;> omega
theorem lval_snoc (ds : List Int) (x : Int) : lval (ds ++ [x]) = lval ds + x * 65536 ^ ds.length := by
  unfold lval
  rw [List.length_append, List.length_singleton]
  simp only [dval]
  rw [getD_snoc, if_neg (by omega), if_pos rfl]
  congr 1
  exact dval_ext _ fun j hj => by rw [getD_snoc, if_pos hj]
theorem lval_bound {ds : List Int} (h : Bd ds) : 0 ≤ lval ds ∧ lval ds < 65536 ^ ds.length := dval_bound h _

theorem trim_row (m : Bool) {B : Nat} {w0 : World} {v : Value} {ds : List Int} {W : World} (hR : Rw B w0 v ds W) (hd : Bd ds) :
    Calls Try.prog 69 #[.bool m, v] W fun e w' => ∃ u, e = .returned u ∧ NumIs u (sg m * lval ds) w' ∧ Below W.heap.size W w' := by
  have key : ∀ (n : Nat), TrimAt ds n → (∀ j, 0 ≤ (fun j => ds.getD j 0) j ∧ (fun j => ds.getD j 0) j < 65536) ∧ (∀ j, n ≤ j → ds.getD j 0 = 0) ∧ (n = 0 ∨ ds.getD (n - 1) 0 ≠ 0) ∧ lval ds = dval (fun j => ds.getD j 0) n := by
    rintro n ⟨h1, h2, h3⟩
    have hz : ∀ j, n ≤ j → ds.getD j 0 = 0 := fun j hj => by
      rcases Nat.lt_or_ge j ds.length with h | h
      · exact h2 j hj h
      · rw [List.getD_eq_getElem?_getD, List.getElem?_eq_none h]; rfl
    exact ⟨hd, hz, h3, dval_ge hz h1⟩
  have fin : ∀ (n : Nat), TrimAt ds n → sg m * lval ds = sg (m && decide (0 < n)) * dval (fun j => ds.getD j 0) n := by
    intro n hn
    rw [(key n hn).2.2.2]
    rcases Nat.eq_zero_or_pos n with h | h
    · subst h; simp [dval]
    · simp [h]
  rcases hR.own.2 with ⟨e1, h0⟩ | ⟨g, cap, cur, e1, h1, h2, h3, h4, -, -⟩
  · have : ds = [] := by simpa using h0
    subst this
    subst e1
    refine (trim_nil m W).mono ?_
    rintro e w' ⟨n, hn, rfl, hb⟩
    have hk := key n hn
    have hn0 : n = 0 := by have := hn.1; simpa using this
    exact ⟨_, rfl, ⟨_, _, n, 0, _, rfl, ⟨hk.1, hk.2.1, hk.2.2.1, .inl hn0⟩, fun h => by simp [h], fin n hn⟩, hb⟩
  · have hlen : g < W.heap.size := (Array.getElem?_eq_some_iff.1 h2).1
    have ho := hR.own
    subst e1
    have hcell : ∀ j, j < ds.length → W.cell? ⟨g, j, none⟩ = some (.int .i64 (ds.getD j 0)) := by
      intro j hj
      rw [ho.cellAt j (by omega), List.getElem?_map, List.getD_eq_getElem?_getD, List.getElem?_eq_getElem hj]
      rfl
    refine (trim_some m g cap ds h3 h4 W hlen hcell).mono ?_
    rintro e w' ⟨n, hn, rfl, hb⟩
    have hk := key n hn
    refine ⟨_, rfl, ⟨_, _, n, cap, _, rfl, ⟨hk.1, hk.2.1, hk.2.2.1, .inr ⟨g, rfl, by have := hn.1; omega, h4, Nat.lt_of_lt_of_le hlen hb.size, ?_⟩⟩, fun h => by simp [h], fin n hn⟩, hb⟩
    intro j hj
    exact (hb.cell (by exact hlen)).trans (hcell j (by have := hn.1; omega))
/-- the frame of Plus: its two numbers, and what it will answer -/
structure PlusW (w : World) (m s s' : Value) (W : World) : Prop where
  sz : W.heap.size = w.heap.size + 3
  hb : Below w.heap.size w W
  a0 : W.cell? ⟨w.heap.size, 0, none⟩ = some m
  a1 : W.cell? ⟨w.heap.size, 1, none⟩ = some s
  b1 : W.cell? ⟨w.heap.size + 1, 1, none⟩ = some s'
  f0 : W.frozen? ⟨w.heap.size + 2, 0, none⟩ = false
  f1 : W.frozen? ⟨w.heap.size + 2, 1, none⟩ = false
  z0 : W.cell? ⟨w.heap.size + 2, 0, none⟩ = some (.bool false)
  z1 : W.cell? ⟨w.heap.size + 2, 1, none⟩ = some (.slice none 0 0)
def PlusI (B : Nat) (W2 : World) (n k : Nat) (f h : Nat → Int) (dv cv iv : Value) (W : World) : Prop :=
  ∃ (ds : List Int) (cy : Int), cv = .int .i64 cy ∧ iv = .int .i64 ds.length ∧ Rw B W2 dv ds W ∧ Bd ds ∧ (cy = 0 ∨ cy = 1) ∧ ((ds.length ≤ n ∨ ds.length ≤ k) ∨ (cy = 0 ∧ (ds.length ≤ n + 1 ∨ ds.length ≤ k + 1))) ∧ lval ds + cy * 65536 ^ ds.length = dval f ds.length + dval h ds.length

set_option maxHeartbeats 1000000 in
set_option maxRecDepth 100000 in
theorem plus_add (m : Bool) (ad ad' : Option Addr) (n k c c' : Nat) (f h : Nat → Int) (hn : n ≤ 100) (hk : k ≤ 100) (w : World) (d1 : DigAt w ad n c f) (d2 : DigAt w ad' k c' h) :
    Calls Try.prog 56 #[.agg #[.bool m, .slice ad n c], .agg #[.bool m, .slice ad' k c']] w fun e w' => ∃ u, e = .returned u ∧ NumIs u (sg m * (dval f n + dval h k)) w' ∧ Below w.heap.size w w' := by
  obtain ⟨i0, hi, hz0, hz1, hz2⟩ := info_parts info_int
  have D1 := Lib.hid d1
  have D2 := Lib.hid d2
  clear d1 d2
  go_enter Try.func56, Try.ntmps56
  go_wp2
  refine wp_abs (fun W => PlusW w (.bool m) (.slice ad n c) (.slice ad' k c') W) ?_ ?_
  · constructor <;> first | (simp [go_sem]; done) | repeat (first | (with_reducible exact Below.refl _ _) | (with_reducible refine bl_alloc ?_ _) | (with_reducible refine Below.drew ?_) | (with_reducible refine below_drewN' ?_ _) | ((with_reducible refine bl_set ?_ ?_ _); (rotate_left; (dsimp only; omega))))
  intro W2 hW
  go_loopw [5, 6, 7] (fun dv cv iv W => PlusI (w.heap.size + 3) W2 n k f h dv cv iv W) (fun _ _ iv _ => 102 - (intOf iv).toNat)
  case atStart => exact ⟨[], 0, rfl, rfl, by rw [← hW.sz]; exact Rw.nil (Nat.le_refl _), bd_nil, .inl rfl, .inl (by simp), by simp [lval, dval]⟩
  case round =>
    obtain ⟨ds, cy, rfl, rfl, hR, hB, hcy, hlen, heq⟩ := hrel
    have hRs := hR.sz
    have c1 : wr.cell? ⟨w.heap.size, 1, none⟩ = some (.slice ad n c) := (hR.hb.cell (by dsimp only; omega)).trans hW.a1
    have c2 : wr.cell? ⟨w.heap.size + 1, 1, none⟩ = some (.slice ad' k c') := (hR.hb.cell (by dsimp only; omega)).trans hW.b1
    have DA : Hid (DigAt wr ad n c f) := D1.out.below (bl_trans hW.hb (by rw [hW.sz]; exact hR.hb))
    have DB : Hid (DigAt wr ad' k c' h) := D2.out.below (bl_trans hW.hb (by rw [hW.sz]; exact hR.hb))
    have HR := Lib.hid hR
    clear hR
    have HB := Lib.hid hB
    clear hB
    have HQ := Lib.hid heq
    clear heq
    have hfb := DA.out.bd ds.length
    have hhb := DB.out.bd ds.length
    by_cases hgo : ds.length < n ∨ ds.length < k ∨ 0 < cy
    · go_upto_region 5 with (fail)
      go_cut [33] (fun bv W => bv = .bool true ∧ wr = W)
      case first =>
        rcases (show (ds.length < n) ∨ (¬ ds.length < n ∧ ds.length < k) ∨ (¬ ds.length < n ∧ ¬ ds.length < k ∧ 0 < cy) by omega) with h1 | ⟨h1, h2⟩ | ⟨h1, h2, h3⟩
        · have b1 : decide ((ds.length : Int) < (n : Int)) = true := by simp; omega
          go_wp2
          go_meet
          case rel => exact ⟨rfl, rfl⟩
        · have b1 : decide ((ds.length : Int) < (n : Int)) = false := by simp; omega
          have b2 : decide ((ds.length : Int) < (k : Int)) = true := by simp; omega
          go_wp2
          go_meet
          case rel => exact ⟨rfl, rfl⟩
        · have b1 : decide ((ds.length : Int) < (n : Int)) = false := by simp; omega
          have b2 : decide ((ds.length : Int) < (k : Int)) = false := by simp; omega
          have b3 : decide (0 < cy) = true := by simp; omega
          go_wp2
          go_meet
          case rel => exact ⟨rfl, rfl⟩
      case rest =>
        obtain ⟨rfl, rfl⟩ := hcut
        go_upto_region 7 with (fail)
        have hw1 : IntKind.i64.wrap (f ds.length + h ds.length) = f ds.length + h ds.length := IntWalk.i64_in _ (by omega)
        have hw2 : IntKind.i64.wrap (f ds.length + h ds.length + cy) = f ds.length + h ds.length + cy := IntWalk.i64_in _ (by omega)
        go_cut [8] (fun xv W => xv = .int .i64 (f ds.length + h ds.length + cy) ∧ Below wr.heap.size wr W)
        case first =>
          go_region_with (first
            | (go_at_call 70; (with_reducible refine (digit_num (DA.out.below (bl_drew1 _)) ds.length).mono ?_); rintro e w1 ⟨rfl, hb1⟩
               have c3 : w1.cell? ⟨w.heap.size + 1, 1, none⟩ = some (.slice ad' k c') := (hb1.cell (by simp; omega)).trans c2
               have DB1 : Hid (DigAt w1 ad' k c' h) := DB.out.below (bl_trans (bl_drew1 _) hb1))
            | (go_at_call 70; (with_reducible refine (digit_num DB1.out ds.length).mono ?_); rintro e w2 ⟨rfl, hb2⟩))
          all_goals
            go_wp2_with fail
            go_meet
            case rel => exact ⟨by first | rfl | simp [hw1, hw2], bl_trans (bl_trans (bl_drew1 _) hb1) hb2⟩
        case rest =>
          obtain ⟨rfl, hb⟩ := hcut
          have RW : Hid (Rw (w.heap.size + 3) W2 u5 ds wc) := HR.out.kept hb
          have hws := hb.size
          clear c1 c2 DA DB HR hw1 hw2
          obtain ⟨x, hx, hxb⟩ : ∃ x, x = f ds.length + h ds.length + cy ∧ (0 ≤ x ∧ x < 131073) := ⟨_, rfl, by omega⟩
          have HX := Lib.hid hx
          rw [← hx]
          clear hx
          have et : IntKind.i64.wrap (x.tmod 65536) = x % 65536 := by
            rw [Int.tmod_eq_emod_of_nonneg hxb.1]; exact IntWalk.i64_in _ (by omega)
          have et' : wrap64 (x.tmod 65536) = x % 65536 := by
            rw [Int.tmod_eq_emod_of_nonneg hxb.1]; unfold wrap64; omega
          have eq : IntKind.i64.wrap (x.tdiv 65536) = x / 65536 := by
            rw [Int.tdiv_eq_ediv_of_nonneg hxb.1]; exact IntWalk.i64_in _ (by omega)
          have eq' : wrap64 (x.tdiv 65536) = x / 65536 := by
            rw [Int.tdiv_eq_ediv_of_nonneg hxb.1]; unfold wrap64; omega
          have hl : ds.length ≤ 101 := by omega
          go_wp2_with (first
            | (at_builtin; refine wpList_append_own _ rfl _ _ 36 rfl (w.heap.size + 3) 3 i0 (.int .i64 0) 1 8 Try.underlying36 hi hz0 hz1 hz2 rfl (by decide) _ _ _ rfl (RW.out.alloc _).own ⟨wc.heap.size, 0, none⟩ 1 1 [.int .i64 (x % 65536)] rfl rfl ?c1 ?c2 ?c3 ?c4 ?c5 ?_)
            | go_in)
          case c1 => exact cell_one_new _ _ _
          case c2 => intro u hu; simp at hu; subst hu; rfl
          case c3 => unfold maxLen; omega
          case c4 => omega
          case c5 => simp; omega
          intro v' w1 hown' hgrow _
          have R : Hid (Rw (w.heap.size + 3) W2 v' (ds ++ [x % 65536]) w1) := (RW.out.alloc _).more hown' hgrow
          clear hown' hgrow et et'
          go_wp2
          go_roundw
          case rel =>
            have hx := HX.out
            refine ⟨ds ++ [x % 65536], x / 65536, by first | rfl | trivial, by first | rfl | simp, R.out, bd_snoc HB.out (by omega) (by omega), by omega, ?_, ?_⟩
            · simp only [List.length_append, List.length_singleton]
              by_cases hs : ds.length < n ∨ ds.length < k
              · exact .inl (by omega)
              · right
                have z1 := D1.out.hi ds.length (by omega)
                have z2 := D2.out.hi ds.length (by omega)
                constructor <;> omega
            · rw [lval_snoc, List.length_append, List.length_singleton, Int.pow_succ]
              simp only [dval]
              have hq := HQ.out
              have e1 : x % 65536 * 65536 ^ ds.length + x / 65536 * (65536 ^ ds.length * 65536) = x * 65536 ^ ds.length := by
                have : x = x % 65536 + x / 65536 * 65536 := by omega
                generalize (65536 : Int) ^ ds.length = P
                generalize x % 65536 = r at *
                generalize x / 65536 = q at *
                rw [this, Int.add_mul, Int.mul_assoc, Int.mul_comm 65536 P]
              have e2 : x * 65536 ^ ds.length = f ds.length * 65536 ^ ds.length + h ds.length * 65536 ^ ds.length + cy * 65536 ^ ds.length := by
                rw [hx, Int.add_mul, Int.add_mul]
              omega
          case measure => simp [intOf] <;> omega
    · have b1 : decide ((ds.length : Int) < (n : Int)) = false := by simp; omega
      have b2 : decide ((ds.length : Int) < (k : Int)) = false := by simp; omega
      have ec : cy = 0 := by omega
      subst ec
      have hM : wr.cell? ⟨w.heap.size, 0, none⟩ = some (.bool m) := (HR.out.hb.cell (by dsimp only; omega)).trans hW.a0
      have hbW : Hid (Below w.heap.size w wr ∧ wr.frozen? ⟨w.heap.size + 2, 0, none⟩ = false ∧ wr.frozen? ⟨w.heap.size + 2, 1, none⟩ = false ∧ wr.cell? ⟨w.heap.size + 2, 0, none⟩ = some (.bool false) ∧ wr.cell? ⟨w.heap.size + 2, 1, none⟩ = some (.slice none 0 0)) :=
        ⟨bl_trans hW.hb (by rw [hW.sz]; exact HR.out.hb), (HR.out.hb.frozen (by dsimp only; omega)).trans hW.f0, (HR.out.hb.frozen (by dsimp only; omega)).trans hW.f1, (HR.out.hb.cell (by dsimp only; omega)).trans hW.z0, (HR.out.hb.cell (by dsimp only; omega)).trans hW.z1⟩
      have hdone : lval ds = dval f n + dval h k := by
        have hq := HQ.out
        rw [dval_ge D1.out.hi (by omega), dval_ge D2.out.hi (by omega)] at hq
        omega
      clear hW
      go_wp2_with fail
      refine (trim_row m HR.out HB.out).mono ?_
      rintro e w3 ⟨u, rfl, hN, hb3⟩
      obtain ⟨m3, ad3, n3, cap3, f3, rfl, hD3, hm3, hz3⟩ := hN
      have HD := Lib.hid hD3
      clear hD3
      have f0 : w3.frozen? ⟨w.heap.size + 1 + 1, 0, none⟩ = false := (hb3.frozen (by dsimp only; omega)).trans hbW.out.2.1
      have f1 : w3.frozen? ⟨w.heap.size + 1 + 1, 1, none⟩ = false := (hb3.frozen (by dsimp only; omega)).trans hbW.out.2.2.1
      have z0 : w3.cell? ⟨w.heap.size + 1 + 1, 0, none⟩ = some (.bool false) := (hb3.cell (by dsimp only; omega)).trans hbW.out.2.2.2.1
      have z1 : w3.cell? ⟨w.heap.size + 1 + 1, 1, none⟩ = some (.slice none 0 0) := (hb3.cell (by dsimp only; omega)).trans hbW.out.2.2.2.2
      go_wp2
      refine bodyPost_ret (v := .agg #[.bool m3, .slice ad3 n3 cap3]) (by simp [results, Try.results56, go_sem, z0, z1]) rfl ⟨_, rfl, ⟨m3, ad3, n3, cap3, f3, rfl, HD.out.res z0 _ _, hm3, by rw [← hdone]; exact hz3⟩, ?_⟩
      have hb5 : Below w.heap.size w w3 := bl_trans hbW.out.1 hb3
      repeat (first | (with_reducible exact Below.refl _ _) | (with_reducible refine bl_alloc ?_ _) | (with_reducible refine Below.drew ?_) | (with_reducible refine below_drewN' ?_ _) | ((with_reducible refine bl_set ?_ ?_ _); (rotate_left; (dsimp only; omega))))
      exact hb5
end Go.Proofs.Ytkidphekfnmhhaa
