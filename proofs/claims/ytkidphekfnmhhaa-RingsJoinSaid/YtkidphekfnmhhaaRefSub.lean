/-
  Contract of the document's side: Plus, of two signs.
-/
import Derived.Test.YtkidphekfnmhhaaRefPlus
namespace Go.Proofs.Ytkidphekfnmhhaa
open Go.RowKit

/-- the frame of Plus, of two signs -/
structure SubW (w : World) (m n : Bool) (s s' : Value) (W : World) : Prop where
  sz : w.heap.size + 5 ≤ W.heap.size
  hb : Below w.heap.size w W
  n0 : W.cell? ⟨w.heap.size, 0, none⟩ = some (.bool m)
  n1 : W.cell? ⟨w.heap.size, 1, none⟩ = some s
  m0 : W.cell? ⟨w.heap.size + 1, 0, none⟩ = some (.bool n)
  m1 : W.cell? ⟨w.heap.size + 1, 1, none⟩ = some s'
  z0 : W.cell? ⟨w.heap.size + 2, 0, none⟩ = some (.bool false)
  z1 : W.cell? ⟨w.heap.size + 2, 1, none⟩ = some (.slice none 0 0)
  a0 : W.cell? ⟨w.heap.size + 3, 0, none⟩ = some (.bool m)
  a1 : W.cell? ⟨w.heap.size + 3, 1, none⟩ = some s
  b0 : W.cell? ⟨w.heap.size + 4, 0, none⟩ = some (.bool n)
  b1 : W.cell? ⟨w.heap.size + 4, 1, none⟩ = some s'
  f0 : W.frozen? ⟨w.heap.size + 2, 0, none⟩ = false
  f1 : W.frozen? ⟨w.heap.size + 2, 1, none⟩ = false
  f2 : W.frozen? ⟨w.heap.size + 3, 0, none⟩ = false
  f3 : W.frozen? ⟨w.heap.size + 3, 1, none⟩ = false
  f4 : W.frozen? ⟨w.heap.size + 4, 0, none⟩ = false
  f5 : W.frozen? ⟨w.heap.size + 4, 1, none⟩ = false
theorem SubW.below {w : World} {m n : Bool} {s s' : Value} {W W' : World} (h : SubW w m n s s' W) (hb : Below W.heap.size W W') : SubW w m n s s' W' := by
  have e := h.sz
  have hc : ∀ b o v, b < w.heap.size + 5 → W.cell? ⟨b, o, none⟩ = v → W'.cell? ⟨b, o, none⟩ = v := fun b o v hl hv => (hb.cell (by exact Nat.lt_of_lt_of_le hl e)).trans hv
  have hf : ∀ b o v, b < w.heap.size + 5 → W.frozen? ⟨b, o, none⟩ = v → W'.frozen? ⟨b, o, none⟩ = v := fun b o v hl hv => (hb.frozen (by exact Nat.lt_of_lt_of_le hl e)).trans hv
  exact ⟨by have := hb.size; omega, bl_trans h.hb hb, hc _ _ _ (by omega) h.n0, hc _ _ _ (by omega) h.n1, hc _ _ _ (by omega) h.m0, hc _ _ _ (by omega) h.m1, hc _ _ _ (by omega) h.z0, hc _ _ _ (by omega) h.z1, hc _ _ _ (by omega) h.a0, hc _ _ _ (by omega) h.a1, hc _ _ _ (by omega) h.b0, hc _ _ _ (by omega) h.b1,
    hf _ _ _ (by omega) h.f0, hf _ _ _ (by omega) h.f1, hf _ _ _ (by omega) h.f2, hf _ _ _ (by omega) h.f3, hf _ _ _ (by omega) h.f4, hf _ _ _ (by omega) h.f5⟩
/-- and the same, once the greater one is ahead -/
structure SubV (w : World) (ma : Bool) (sa sb : Value) (W : World) : Prop where
  sz : w.heap.size + 5 ≤ W.heap.size
  hb : Below w.heap.size w W
  z0 : W.cell? ⟨w.heap.size + 2, 0, none⟩ = some (.bool false)
  z1 : W.cell? ⟨w.heap.size + 2, 1, none⟩ = some (.slice none 0 0)
  a0 : W.cell? ⟨w.heap.size + 3, 0, none⟩ = some (.bool ma)
  a1 : W.cell? ⟨w.heap.size + 3, 1, none⟩ = some sa
  b1 : W.cell? ⟨w.heap.size + 4, 1, none⟩ = some sb
  f0 : W.frozen? ⟨w.heap.size + 2, 0, none⟩ = false
  f1 : W.frozen? ⟨w.heap.size + 2, 1, none⟩ = false
def SubI (B : Nat) (W2 : World) (n : Nat) (f h : Nat → Int) (dv cv iv : Value) (W : World) : Prop :=
  ∃ (ds : List Int) (cy : Int), cv = .int .i64 cy ∧ iv = .int .i64 ds.length ∧ Rw B W2 dv ds W ∧ Bd ds ∧ (cy = 0 ∨ cy = 1) ∧ ds.length ≤ n ∧ lval ds - cy * 65536 ^ ds.length = dval f ds.length - dval h ds.length

theorem dval_short {f h : Nat → Int} (hf : ∀ j, 0 ≤ f j ∧ f j < 65536) (hh : ∀ j, 0 ≤ h j ∧ h j < 65536) {n k : Nat} (th : k = 0 ∨ h (k - 1) ≠ 0) (hle : dval h k ≤ dval f n) : k ≤ n := by
  rcases Nat.lt_or_ge n k with h1 | h1
  · rcases th with h2 | h2
    · omega
    · have := dval_len hf hh h1 h2
      omega
  · exact h1

theorem sub_step {ds : List Int} {f h : Nat → Int} {cy x y bo : Int} (hq : lval ds - cy * 65536 ^ ds.length = dval f ds.length - dval h ds.length) (hx : x = f ds.length - h ds.length - cy) (hy : y - bo * 65536 = x) :
    lval (ds ++ [y]) - bo * 65536 ^ (ds ++ [y]).length = dval f (ds ++ [y]).length - dval h (ds ++ [y]).length := by
  rw [lval_snoc, List.length_append, List.length_singleton, Int.pow_succ]
  simp only [dval]
  have e1 : y * 65536 ^ ds.length - bo * (65536 ^ ds.length * 65536) = x * 65536 ^ ds.length := by
    rw [← hy, Int.sub_mul, Int.mul_assoc, Int.mul_comm 65536 (65536 ^ ds.length)]
  have e2 : x * 65536 ^ ds.length = f ds.length * 65536 ^ ds.length - h ds.length * 65536 ^ ds.length - cy * 65536 ^ ds.length := by
    rw [hx, Int.sub_mul, Int.sub_mul]
  omega

set_option maxHeartbeats 4000000 in
set_option maxRecDepth 100000 in
theorem plus_sub (m : Bool) (ad ad' : Option Addr) (n k c c' : Nat) (f h : Nat → Int) (hn : n ≤ 100) (hk : k ≤ 100) (w : World) (d1 : DigAt w ad n c f) (d2 : DigAt w ad' k c' h) :
    Calls Try.prog 56 #[.agg #[.bool m, .slice ad n c], .agg #[.bool (!m), .slice ad' k c']] w fun e w' => ∃ u, e = .returned u ∧ NumIs u (sg m * dval f n + sg (!m) * dval h k) w' ∧ Below w.heap.size w w' := by
  obtain ⟨i0, hi, hz0, hz1, hz2⟩ := info_parts info_int
  have D1 := Lib.hid d1
  have D2 := Lib.hid d2
  clear d1 d2
  have hmm : (m == !m) = false := by cases m <;> rfl
  go_enter Try.func56, Try.ntmps56
  go_upto_region 13 with (fail)
  refine wp_abs (fun W => SubW w m (!m) (.slice ad n c) (.slice ad' k c') W) ?_ ?_
  · constructor <;> first | (simp [go_sem]; done) | repeat (first | (with_reducible exact Below.refl _ _) | (with_reducible refine bl_alloc ?_ _) | (with_reducible refine Below.drew ?_) | (with_reducible refine below_drewN' ?_ _) | ((with_reducible refine bl_set ?_ ?_ _); (rotate_left; (dsimp only; omega))))
  intro W2 hW
  have HW := Lib.hid hW
  have hDa : DigAt W2 ad n c f := D1.out.below hW.hb
  have hDb : DigAt W2 ad' k c' h := D2.out.below hW.hb
  have HDa := Lib.hid hDa
  have HDb := Lib.hid hDb
  clear hDa hDb
  have c1 := hW.n1
  have c2 := hW.m1
  clear hW
  go_cut [65] (fun bv W => ∃ r, SizeIs f h n k r ∧ bv = .bool (decide (r < 0)) ∧ SubW w m (!m) (.slice ad n c) (.slice ad' k c') W)
  case first =>
    go_wp2_with (first
      | (go_at_call 71; (with_reducible refine (size_num HDa.out HDb.out hn hk).mono ?_); rintro e w1 ⟨r, hr, rfl, hb1⟩)
      | go_in)
    go_meet
    case rel => exact ⟨r, hr, rfl, HW.out.below hb1⟩
  case rest =>
    obtain ⟨r, hr, rfl, hW⟩ := hcut
    have hs := size_sign D1.out.bd D2.out.bd D1.out.top D2.out.top hr
    clear hr HDa HDb HW c1 c2
    obtain ⟨-, hwb, g0, g1, g2, g3, g4, g5, g6, g7, g8, g9, p0, p1, p2, p3, p4, p5⟩ := id hW
    have HW := Lib.hid hW
    clear hW
    have hsel : (decide (r < 0) = true ∧ r < 0) ∨ (decide (r < 0) = false ∧ 0 ≤ r) := by
      by_cases h0 : r < 0
      · exact .inl ⟨by simp; omega, h0⟩
      · exact .inr ⟨by simp; omega, by omega⟩
    rcases hsel with ⟨e0, hr0⟩ | ⟨e0, hr0⟩
    case' inl =>
      rw [e0]
      go_upto_region 16 with (fail)
      refine wp_abs (fun W => SubV w (!m) (.slice ad' k c') (.slice ad n c) W) ?_ ?_
      · have hsz := HW.out.sz
        constructor <;> first | (simp [go_sem, *]; done) | (simp; omega) | (refine bl_set (bl_set (bl_set (bl_set hwb ?_ _) ?_ _) ?_ _) ?_ _ <;> (dsimp only; omega))
      intro W3 hV0
      obtain ⟨ma, ada, na, ca, fa, adb, nb, cb, fb, hV, Da, Db, hna, hle, hzz⟩ : ∃ (ma : Bool) (ada : Option Addr) (na ca : Nat) (fa : Nat → Int) (adb : Option Addr) (nb cb : Nat) (fb : Nat → Int), SubV w ma (.slice ada na ca) (.slice adb nb cb) W3 ∧ Hid (DigAt w ada na ca fa) ∧ Hid (DigAt w adb nb cb fb) ∧ na ≤ 100 ∧ Hid (dval fb nb ≤ dval fa na ∧ dval fb (nb + na) = dval fb nb ∧ nb ≤ na) ∧ Hid (sg m * dval f n + sg (!m) * dval h k = sg ma * (dval fa na - dval fb nb)) :=
        ⟨!m, ad', k, c', h, ad, n, c, f, hV0, D2, D1, hk, ⟨Int.le_of_lt (hs.1 hr0), dval_tail D1.out.hi _, dval_short D2.out.bd D1.out.bd D1.out.top (Int.le_of_lt (hs.1 hr0))⟩, by unfold Hid; cases m <;> simp [sg] <;> omega⟩
    case' inr =>
      rw [e0]
      go_upto_region 16 with (fail)
      refine wp_abs (fun W => SubV w m (.slice ad n c) (.slice ad' k c') W) ?_ ?_
      · exact ⟨HW.out.sz, hwb, g4, g5, g6, g7, g9, p0, p1⟩
      intro W3 hV0
      obtain ⟨ma, ada, na, ca, fa, adb, nb, cb, fb, hV, Da, Db, hna, hle, hzz⟩ : ∃ (ma : Bool) (ada : Option Addr) (na ca : Nat) (fa : Nat → Int) (adb : Option Addr) (nb cb : Nat) (fb : Nat → Int), SubV w ma (.slice ada na ca) (.slice adb nb cb) W3 ∧ Hid (DigAt w ada na ca fa) ∧ Hid (DigAt w adb nb cb fb) ∧ na ≤ 100 ∧ Hid (dval fb nb ≤ dval fa na ∧ dval fb (nb + na) = dval fb nb ∧ nb ≤ na) ∧ Hid (sg m * dval f n + sg (!m) * dval h k = sg ma * (dval fa na - dval fb nb)) :=
        ⟨m, ad, n, c, f, ad', k, c', h, hV0, D1, D2, hn, ⟨hs.2 hr0, dval_tail D2.out.hi _, dval_short D1.out.bd D2.out.bd D2.out.top (hs.2 hr0)⟩, by unfold Hid; cases m <;> simp [sg] <;> omega⟩
    all_goals
      clear hV0 hs g0 g1 g2 g3 g4 g5 g6 g7 g8 g9 p0 p1 p2 p3 p4 p5 hwb HW e0 hr0 D1 D2
      have HV := Lib.hid hV
      have hB := hV.sz
      have HDa : Hid (DigAt W3 ada na ca fa) := Da.out.below hV.hb
      have HDb : Hid (DigAt W3 adb nb cb fb) := Db.out.below hV.hb
      clear hV
      go_wp2
      go_loopw [5, 6, 11] (fun dv cv iv W => SubI W3.heap.size W3 na fa fb dv cv iv W) (fun _ _ iv _ => 102 - (intOf iv).toNat)
      case atStart => exact ⟨[], 0, rfl, rfl, Rw.nil (Nat.le_refl _), bd_nil, .inl rfl, by simp, by simp [lval, dval]⟩
      case round =>
        obtain ⟨ds, cy, rfl, rfl, hR, hB0, hcy, hlen, heq⟩ := hrel
        have hRs := hR.sz
        have HR := Lib.hid hR
        clear hR
        have HB := Lib.hid hB0
        clear hB0
        have HQ := Lib.hid heq
        clear heq
        have c1 : wr.cell? ⟨w.heap.size + 1 + 1 + 1, 1, none⟩ = some (.slice ada na ca) := (HR.out.hb.cell (by dsimp only; omega)).trans HV.out.a1
        by_cases hgo : ds.length < na
        · have b1 : decide ((ds.length : Int) < (na : Int)) = true := by simp; omega
          have c2 : wr.cell? ⟨w.heap.size + 1 + 1 + 1 + 1, 1, none⟩ = some (.slice adb nb cb) := (HR.out.hb.cell (by dsimp only; omega)).trans HV.out.b1
          have hfb := HDa.out.bd ds.length
          have hhb := HDb.out.bd ds.length
          have DB : Hid (DigAt wr adb nb cb fb) := HDb.out.below HR.out.hb
          rcases HDa.out.mem with h0 | ⟨ga, rfl, y1, y2, y3, y4⟩
          · omega
          have c3 : wr.cell? ⟨ga, ds.length, none⟩ = some (.int .i64 (fa ds.length)) := (HR.out.hb.cell (by exact y3)).trans (y4.out _ hgo)
          have hg1 := y3
          clear y4 y3
          have hw1 : IntKind.i64.wrap (fa ds.length - fb ds.length) = fa ds.length - fb ds.length := IntWalk.i64_in _ (by omega)
          have hw2 : IntKind.i64.wrap (fa ds.length - fb ds.length - cy) = fa ds.length - fb ds.length - cy := IntWalk.i64_in _ (by omega)
          go_upto_region 19 with (fail)
          go_cut [12] (fun xv W => xv = .int .i64 (fa ds.length - fb ds.length - cy) ∧ Below wr.heap.size wr W)
          case first =>
            go_region_with (first
              | (go_at_call 70; (with_reducible refine (digit_num (DB.out.below (bl_drew1 _)) ds.length).mono ?_); rintro e w1 ⟨rfl, hb1⟩
                 have c4 : w1.cell? ⟨w.heap.size + 1 + 1 + 1, 1, none⟩ = some (.slice (some ⟨ga, 0, none⟩) na ca) := (hb1.cell (by simp; omega)).trans c1
                 have c5 : w1.cell? ⟨ga, ds.length, none⟩ = some (.int .i64 (fa ds.length)) := (hb1.cell (by simp; omega)).trans c3)
              | fail)
            all_goals
              go_wp2_with fail
              go_meet
              case rel => exact ⟨by first | rfl | simp [hw1, hw2], bl_trans (bl_drew1 _) hb1⟩
          case rest =>
            obtain ⟨rfl, hb⟩ := hcut
            have RW : Hid (Rw W3.heap.size W3 u5 ds wc) := HR.out.kept hb
            have hws := hb.size
            clear c1 c2 c3 DB HR hw1 hw2 HDa HDb HV
            obtain ⟨x, hx, hxb⟩ : ∃ x, x = fa ds.length - fb ds.length - cy ∧ (-65536 ≤ x ∧ x < 65536) := ⟨_, rfl, by omega⟩
            have HX := Lib.hid hx
            rw [← hx]
            clear hx
            obtain ⟨y, bo, hsel⟩ : ∃ y bo : Int, (decide (x < 0) = true ∧ x < 0 ∧ IntKind.i64.wrap (x + 65536) = y ∧ y = x + 65536 ∧ bo = 1) ∨ (decide (x < 0) = false ∧ 0 ≤ x ∧ y = x ∧ bo = 0) := by
              by_cases h0 : x < 0
              · exact ⟨x + 65536, 1, .inl ⟨by simp; omega, h0, IntWalk.i64_in _ (by omega), rfl, rfl⟩⟩
              · exact ⟨x, 0, .inr ⟨by simp; omega, by omega, rfl, rfl⟩⟩
            have hy : Hid (0 ≤ y ∧ y < 65536 ∧ y - bo * 65536 = x ∧ (bo = 0 ∨ bo = 1)) := by unfold Hid; omega
            have hl : ds.length ≤ 101 := by omega
            rcases hsel with ⟨s1, s2, s3, -, s5⟩ | ⟨s1, s2, s3, s5⟩
            case' inl => subst s5
            case' inr => subst s3 s5
            all_goals
              go_wp2_with (first
                | (at_builtin; refine wpList_append_own _ rfl _ _ 36 rfl W3.heap.size 3 i0 (.int .i64 0) 1 8 Try.underlying36 hi hz0 hz1 hz2 rfl (by decide) _ _ _ rfl (RW.out.alloc _).own ⟨wc.heap.size, 0, none⟩ 1 1 [.int .i64 y] rfl rfl (cell_one_new _ _ _) (by intro u hu; simp at hu; subst hu; rfl) (by unfold maxLen; omega) (by omega) (by simp; omega) ?_)
                | go_in)
              intro v' w1 hown' hgrow _
              have R : Hid (Rw W3.heap.size W3 v' (ds ++ [y]) w1) := (RW.out.alloc _).more hown' hgrow
              clear hown' hgrow
              go_wp2
              go_roundw
              case rel =>
                have hx := HX.out
                obtain ⟨y0, y1', y2', y3'⟩ := hy.out
                refine ⟨ds ++ [y], _, rfl, by first | rfl | simp, R.out, bd_snoc HB.out y0 y1', by omega, by simp; omega, ?_⟩
                exact sub_step HQ.out hx y2'
              case measure => simp [intOf] <;> omega
        · have hln : ds.length = na := by omega
          have b1 : decide ((ds.length : Int) < (na : Int)) = false := by simp; omega
          have hM : wr.cell? ⟨w.heap.size + 1 + 1 + 1, 0, none⟩ = some (.bool ma) := (HR.out.hb.cell (by dsimp only; omega)).trans HV.out.a0
          have hbW : Hid (Below w.heap.size w wr ∧ wr.frozen? ⟨w.heap.size + 2, 0, none⟩ = false ∧ wr.frozen? ⟨w.heap.size + 2, 1, none⟩ = false ∧ wr.cell? ⟨w.heap.size + 2, 0, none⟩ = some (.bool false) ∧ wr.cell? ⟨w.heap.size + 2, 1, none⟩ = some (.slice none 0 0)) :=
            ⟨bl_trans HV.out.hb HR.out.hb, (HR.out.hb.frozen (by dsimp only; omega)).trans HV.out.f0, (HR.out.hb.frozen (by dsimp only; omega)).trans HV.out.f1, (HR.out.hb.cell (by dsimp only; omega)).trans HV.out.z0, (HR.out.hb.cell (by dsimp only; omega)).trans HV.out.z1⟩
          have hdone : Hid (lval ds = dval fa na - dval fb nb) := by
            have hq := HQ.out
            obtain ⟨q1, q2, q3⟩ := hle.out
            have hl := lval_bound HB.out
            have hfn := dval_ge HDb.out.hi q3
            rw [hln] at hq hl
            unfold Hid
            rcases hcy with rfl | rfl <;> omega
          go_wp2_with fail
          refine (trim_row ma HR.out HB.out).mono ?_
          rintro e w3 ⟨u, rfl, hN, hb3⟩
          obtain ⟨m3, ad3, n3, cap3, f3, rfl, hD3, hm3, hz3⟩ := hN
          have HD := Lib.hid hD3
          clear hD3
          have f0 : w3.frozen? ⟨w.heap.size + 1 + 1, 0, none⟩ = false := (hb3.frozen (by dsimp only; omega)).trans hbW.out.2.1
          have f1 : w3.frozen? ⟨w.heap.size + 1 + 1, 1, none⟩ = false := (hb3.frozen (by dsimp only; omega)).trans hbW.out.2.2.1
          have z0 : w3.cell? ⟨w.heap.size + 1 + 1, 0, none⟩ = some (.bool false) := (hb3.cell (by dsimp only; omega)).trans hbW.out.2.2.2.1
          have z1 : w3.cell? ⟨w.heap.size + 1 + 1, 1, none⟩ = some (.slice none 0 0) := (hb3.cell (by dsimp only; omega)).trans hbW.out.2.2.2.2
          go_wp2
          refine bodyPost_ret (v := .agg #[.bool m3, .slice ad3 n3 cap3]) (by simp [results, Try.results56, go_sem, z0, z1]) rfl ⟨_, rfl, ⟨m3, ad3, n3, cap3, f3, rfl, HD.out.res z0 _ _, hm3, by rw [hzz.out, ← hdone.out]; exact hz3⟩, ?_⟩
          have hb5 : Below w.heap.size w w3 := bl_trans hbW.out.1 hb3
          exact bl_set (bl_set hb5 (by dsimp only; omega) _) (by dsimp only; omega) _

theorem plus_c (v u : Value) (z y : Int) (w : World) (h1 : NumIs v z w) (h2 : NumIs u y w) (b1 : -BIG < z ∧ z < BIG) (b2 : -BIG < y ∧ y < BIG) :
    Calls Try.prog 56 #[v, u] w fun e w' => ∃ x, e = .returned x ∧ NumIs x (z + y) w' ∧ Below w.heap.size w w' := by
  obtain ⟨m, ad, n, c, f, rfl, d1, -, rfl⟩ := h1
  obtain ⟨m', ad', k, c', h, rfl, d2, -, rfl⟩ := h2
  have l1 := len_of d1 m b1.1 b1.2
  have l2 := len_of d2 m' b2.1 b2.2
  by_cases hm : m' = m
  · subst hm
    rw [← Int.mul_add]
    exact plus_add m' ad ad' n k c c' f h l1 l2 w d1 d2
  · obtain rfl : m' = !m := by cases m <;> cases m' <;> simp_all
    exact plus_sub m ad ad' n k c c' f h l1 l2 w d1 d2
end Go.Proofs.Ytkidphekfnmhhaa
