/-
  The law RingsOrder.
-/
import Derived.Test.YtpockemjfbaheaaRKnown
import Derived.Test.YtpockemjfbaheaaROrdMath
namespace Go.Proofs.Ytpockemjfbaheaa
open Go.RowKit

/-- bools of a row, in memory -/
def BoolRow (W : World) (ad : Option Addr) (F : List Bool) : Prop := ∀ i (h : i < F.length), ∃ g o, ad = some ⟨g, o, none⟩ ∧ W.cell? ⟨g, o + i, none⟩ = some (.bool F[i])
theorem BoolRow.below {W W' : World} {ad : Option Addr} {F : List Bool} (h : BoolRow W ad F) (hb : Below W.heap.size W W') : BoolRow W' ad F := by
  intro i hi
  obtain ⟨g, o, e, h1⟩ := h i hi
  exact ⟨g, o, e, (hb.cell (cell_lt h1)).trans h1⟩
theorem u64modn (z : Int) (n : Nat) (h1 : 0 < n) (hn : n ≤ 100000) : ∃ r : Nat, r < n ∧ wrap64 ((IntKind.u64.wrap z).tmod (n : Int)) = (r : Int) := by
  have h0 : 0 ≤ IntKind.u64.wrap z := by rw [IntKind.wrap_u64]; exact Int.emod_nonneg _ (by omega)
  generalize IntKind.u64.wrap z = y at *
  rw [Int.tmod_eq_emod_of_nonneg h0]
  have h3 := Int.emod_nonneg y (show (n : Int) ≠ 0 by omega)
  have h4 := Int.emod_lt_of_pos y (show 0 < (n : Int) by omega)
  generalize y % (n : Int) = r at *
  exact ⟨r.toNat, by omega, by unfold wrap64; omega⟩
theorem wsum {i k : Nat} (hi : i ≤ 100000) (hk : k ≤ 100000) : wrap64 ((i : Int) + (k : Int)) = (i : Int) + (k : Int) ∧ IntKind.i64.wrap ((i : Int) + (k : Int)) = (i : Int) + (k : Int) :=
  ⟨by unfold wrap64; omega, IntWalk.i64_in _ (by omega)⟩
theorem rot_is {l : List Pt} {k : Nat} (h : k < l.length) : ((List.range l.length).map fun j : Nat => pget l ((j + k) % l.length)) = l.drop k ++ l.take k := by
  apply List.ext_getElem
  · simp; omega
  intro i h1 h2
  have hi : i < l.length := by simpa using h1
  simp only [List.getElem_map, List.getElem_range]
  rcases Nat.lt_or_ge (i + k) l.length with hl | hl
  · rw [Nat.mod_eq_of_lt hl, List.getElem_append_left (by rw [List.length_drop]; omega), List.getElem_drop]
    unfold pget
    simp only [List.getD_eq_getElem?_getD, List.getElem?_eq_getElem hl, Option.getD_some]
    congr 1
    omega
  · have e : (i + k) % l.length = i + k - l.length := by
      rw [Nat.mod_eq_sub_mod hl, Nat.mod_eq_of_lt (by omega)]
    rw [e, List.getElem_append_right (by rw [List.length_drop]; omega), List.getElem_take]
    unfold pget
    simp only [List.getD_eq_getElem?_getD, List.getElem?_eq_getElem (show i + k - l.length < l.length by omega), Option.getD_some]
    congr 1
    rw [List.length_drop]
    omega
theorem rot_same {l m : List Pt} {k : Nat} (h : k < l.length) (hm : m.map norm = (List.range l.length).map fun j : Nat => norm (pget l ((j + k) % l.length))) : SameSegs l m := by
  unfold SameSegs
  have e : m.map norm = (l.drop k ++ l.take k).map norm := by rw [hm, ← rot_is h, List.map_map]; rfl
  rw [e]
  refine List.Perm.map _ ?_
  have := List.perm_append_comm (l₁ := l.drop k) (l₂ := l.take k)
  exact (by rw [List.take_append_drop] at this; exact this.symm)
theorem rings_size {n : Int} {l : List Pt} {L : List (List Int)} {x e : Int} (h : ringsR n l = (L, x, e)) (hn : n ≤ 10000) : L.length ≤ 10000 ∧ ∀ R ∈ L, R.length ≤ 10000 := by
  by_cases ho : okL n l
  · by_cases ha : againF l < 0
    · by_cases hf : forkF n.toNat l < 0
      · rw [ringsR_ok ho ha hf] at h
        obtain ⟨k, rfl⟩ := Int.eq_ofNat_of_zero_le ho.1
        rw [Int.toNat_natCast] at *
        injection h with h1 h2
        subst h1
        have g1 := good_of ho ha hf
        refine ⟨Nat.le_trans (ringsTo_len _ _ _) (by omega), ?_⟩
        have key : ∀ m, m ≤ k → ∀ R ∈ ringsTo (pr l) k m, R.length ≤ 10000 := by
          intro m
          induction m with
          | zero => intro _ R hR; simp [ringsTo] at hR
          | succ m ih =>
            intro hm R hR
            rw [ringsTo] at hR
            split at hR
            · exact ih (by omega) R hR
            · next hc =>
              rcases List.mem_append.1 hR with h3 | h3
              · exact ih (by omega) R h3
              · simp at h3
                subst h3
                refine Nat.le_trans (ring_len g1.net (by omega) (by omega) ?_) (by omega)
                intro e2
                exact hc (by rw [decide_eq_true e2]; simp)
        exact key k (Nat.le_refl _)
      · rw [ringsR_fork ho ha (by omega)] at h
        injection h with h1 h2
        subst h1
        simp
    · rw [ringsR_twice ho (by omega)] at h
      injection h with h1 h2
      subst h1
      simp
  · rw [ringsR_arg ho] at h
    injection h with h1 h2
    subst h1
    simp
theorem norm_swap (x y : Int) : norm ⟨y, x⟩ = norm ⟨x, y⟩ := norm_eq.2 (.inr ⟨rfl, rfl⟩)
set_option maxHeartbeats 8000000 in
set_option maxRecDepth 100000 in
theorem order_l (w : World) (n : Int) (l : List Pt) (ad : Option Addr) (cap : Nat) (_ : l.length ≤ cap) (hP : PtRow w ad l) (_ : ad = none → cap = 0) (turn : Int) (F : List Bool) (fa : Option Addr) (fc : Nat) (hF : BoolRow w fa F) :
    Calls Try.prog 6 #[.int .i64 n, .slice ad l.length cap, .int .i64 turn, .slice fa F.length fc] w (Gives (.bool true) w) := by
  have K := Lib.hid (fun W => known_l W)
  have HP := Lib.hid hP
  have HF := Lib.hid hF
  clear hP hF
  go_enter Try.func6, Try.ntmps6
  by_cases h1 : 300 < n
  · have b1 : (300 < n) = True := eq_true h1
    go_wp2_with fail
    (with_reducible refine (K.out _).mono ?_); rintro e w1 ⟨rfl, hb1⟩
    go_wp2
    go_ret
    exact ⟨rfl, hb1⟩
  have b1 : (300 < n) = False := eq_false h1
  by_cases h2 : 150 < l.length
  · have b2 : ((150 : Int) < (l.length : Int)) = True := eq_true (by omega)
    clear h1
    go_wp2_with fail
    (with_reducible refine (K.out _).mono ?_); rintro e w1 ⟨rfl, hb1⟩
    go_wp2
    go_ret
    exact ⟨rfl, hb1⟩
  have b2 : ((150 : Int) < (l.length : Int)) = False := eq_false (by omega)
  by_cases h3 : l.length = 0
  · have b3 : ((l.length : Int) = 0) = True := eq_true (by omega)
    have b4 : ((l.length : Int) == 0) = true := beq_iff_eq.2 (by omega)
    have b5 : (l = []) = True := eq_true (List.length_eq_zero_iff.1 h3)
    clear h1 h2 h3
    go_wp2_with fail
    (with_reducible refine (K.out _).mono ?_); rintro e w1 ⟨rfl, hb1⟩
    go_wp2
    go_ret
    exact ⟨rfl, hb1⟩
  have b3 : ((l.length : Int) = 0) = False := eq_false (by omega)
  have b4 : ((l.length : Int) == 0) = false := beq_eq_false_iff_ne.2 (by omega)
  have b5 : (l = []) = False := eq_false (fun e => h3 (by rw [e]; rfl))
  have hn : n ≤ 300 := by omega
  have hl1 : 0 < l.length := by omega
  have hl2 : l.length ≤ 150 := by omega
  clear h1 h2 h3
  obtain ⟨g, o, rfl⟩ := HP.out.some hl1
  go_upto_region 4 with (fail)
  go_cut [10] (fun kv W => ∃ k : Nat, kv = .int .i64 k ∧ k < l.length ∧ w = W)
  case first =>
    have HN := Lib.hid hn
    have HL2 := Lib.hid hl2
    clear hn
    go_wp2_with fail
    go_meet
    case rel =>
      obtain ⟨r, hr, e⟩ := u64modn turn l.length hl1 (by have := HL2.out; omega)
      exact ⟨r, by rw [e], hr, rfl⟩
  case rest =>
  obtain ⟨k, rfl, hk, rfl⟩ := hcut
  clear b1 b2
  go_wp2_with fail
  go_loopw [9, 11] (fun v iv W => ∃ (i : Nat) (M : List Pt), i ≤ l.length ∧ iv = .int .i64 i ∧ M.length = i ∧ M.map norm = ((List.range i).map fun j : Nat => norm (pget l ((j + k) % l.length))) ∧ Op 36 w v M W) (fun _ iv _ => l.length - (intOf iv).toNat)
  case atStart => exact ⟨0, [], Nat.zero_le _, rfl, rfl, rfl, op_nil _ w⟩
  case round =>
    obtain ⟨i, M, hi, rfl, hML, hMN, hO⟩ := hrel
    have HO := Lib.hid hO
    have HMN := Lib.hid hMN
    have HML := Lib.hid hML
    clear hO hMN hML
    by_cases hlt : i < l.length
    · have c1 : ((i : Int) < (l.length : Int)) = True := eq_true (by omega)
      obtain ⟨r, hr⟩ : ∃ r, (i + k) % l.length = r := ⟨_, rfl⟩
      have hrl : r < l.length := by rw [← hr]; exact Nat.mod_lt _ hl1
      have c2 : ((i : Int) + (k : Int)).tmod (l.length : Int) = (r : Int) := by rw [← hr]; rfl
      have c3 : ((r : Int) < (l.length : Int)) = True := eq_true (by omega)
      have c4 : ((0 : Int) ≤ (r : Int)) = True := eq_true (by omega)
      have c5 : (r < l.length) = True := eq_true hrl
      obtain ⟨s, hs⟩ : ∃ s, pget l r = s := ⟨_, rfl⟩
      obtain ⟨k0, k1⟩ := ptRow_at (HP.out.below HO.out.hb) hrl hs
      have HSN : Hid ((List.range (i + 1)).map (fun j : Nat => norm (pget l ((j + k) % l.length))) = M.map norm ++ [norm s]) := by
        rw [List.range_succ, List.map_append, ← HMN.out]
        simp only [List.map_cons, List.map_nil]
        rw [hr, hs]
        exact rfl
      clear hr hs
      obtain ⟨s1, s2⟩ := wsum (i := i) (k := k) (by omega) (by omega)
      go_upto_region 9 with (fail)
      clear s1 s2 c2
      have HV := Lib.hid (var2_new wr (.int .i64 s.x) (.int .i64 s.y) 36 wr.heap.size rfl)
      have HBV := Lib.hid (bl_one wr (.cells #[.int .i64 s.x, .int .i64 s.y] 36))
      have HF2 := Lib.hid (HF.out.below (bl_trans HO.out.hb HBV.out))
      generalize hW2 : wr.alloc (.cells #[.int .i64 s.x, .int .i64 s.y] 36) = W2 at *
      clear hW2
      obtain ⟨g2, hg2⟩ : ∃ g, wr.heap.size = g := ⟨_, rfl⟩
      have HG2 := Lib.hid hg2
      rw [hg2] at HV ⊢
      clear hg2 k0 k1
      obtain ⟨v0, v1⟩ := HV.out.two
      obtain ⟨f0, f1⟩ := HV.out.free2
      have c6 : ((0 : Int) ≤ (i : Int)) = True := eq_true (by omega)
      obtain ⟨m1, m2, m3, m4⟩ := wnum (i := i) (by omega)
      by_cases hfi : i < F.length
      · have c7 : ((i : Int) < (F.length : Int)) = True := eq_true (by omega)
        have c8 : (i < F.length) = True := eq_true hfi
        obtain ⟨gf, of, rfl, kf⟩ := HF2.out i hfi
        obtain ⟨b, hb⟩ : ∃ b, F[i] = b := ⟨_, rfl⟩
        rw [hb] at kf
        clear hb
        cases b
        · go_wp2_with (at_builtin; refine app_pts rfl Try.underlying22 info_eseg _ _ rfl rfl ((HO.out.below HBV.out).alloc _) rfl (L := [⟨s.x, s.y⟩]) rfl (ptRow_new _ ⟨s.x, s.y⟩ _) (fun h => by cases h) (by rw [HML.out]; simp; omega) ?_)
          intro v1 w1 hO1
          have HO1 := Lib.hid hO1
          obtain ⟨ad1, cp1, rfl, -, -, -⟩ := hO1.slice
          clear hO1 HV HF2 v0 v1 f0 f1
          go_wp2_with fail
          clear m1 m2 m3 m4
          exact ⟨⟨i + 1, _, hlt, by rw [Int.natCast_add]; rfl, by rw [List.length_append, HML.out]; rfl, by rw [HSN.out, List.map_append]; rfl, HO1.out⟩, by simp [intOf]; omega⟩
        · go_upto_region 11 with (fail)
          have HVS := Lib.hid (HV.out.set2 (.int .i64 s.y) (.int .i64 s.x))
          have hb3 := bl_set (bl_set HBV.out (p := ⟨g2, 0, none⟩) (by have := HG2.out; dsimp only; omega) (.int .i64 s.y)) (p := ⟨g2, 1, none⟩) (by have := HG2.out; dsimp only; omega) (.int .i64 s.x)
          have HB3 := Lib.hid hb3
          clear hb3 v0 v1 f0 f1 kf HF2
          generalize (W2.setCell ⟨g2, 0, none⟩ (.int .i64 s.y)).setCell ⟨g2, 1, none⟩ (.int .i64 s.x) = W3 at *
          obtain ⟨v0, v1⟩ := HVS.out.two
          go_wp2_with (at_builtin; refine app_pts rfl Try.underlying22 info_eseg _ _ rfl rfl ((HO.out.below HB3.out).alloc _) rfl (L := [⟨s.y, s.x⟩]) rfl (ptRow_new _ ⟨s.y, s.x⟩ _) (fun h => by cases h) (by rw [HML.out]; simp; omega) ?_)
          intro v1' w1 hO1
          have HO1 := Lib.hid hO1
          obtain ⟨ad1, cp1, rfl, -, -, -⟩ := hO1.slice
          clear hO1 HV HVS v0 v1
          go_wp2_with fail
          clear m1 m2 m3 m4
          exact ⟨⟨i + 1, _, hlt, by rw [Int.natCast_add]; rfl, by rw [List.length_append, HML.out]; rfl, by rw [HSN.out, List.map_append, List.map_cons, List.map_nil, norm_swap], HO1.out⟩, by simp [intOf]; omega⟩
      · have c7 : ((i : Int) < (F.length : Int)) = False := eq_false (by omega)
        have c8 : (i < F.length) = False := eq_false hfi
        go_wp2_with (at_builtin; refine app_pts rfl Try.underlying22 info_eseg _ _ rfl rfl ((HO.out.below HBV.out).alloc _) rfl (L := [⟨s.x, s.y⟩]) rfl (ptRow_new _ ⟨s.x, s.y⟩ _) (fun h => by cases h) (by rw [HML.out]; simp; omega) ?_)
        intro v1 w1 hO1
        have HO1 := Lib.hid hO1
        obtain ⟨ad1, cp1, rfl, -, -, -⟩ := hO1.slice
        clear hO1 HV HF2 v0 v1 f0 f1
        go_wp2_with fail
        clear m1 m2 m3 m4
        exact ⟨⟨i + 1, _, hlt, by rw [Int.natCast_add]; rfl, by rw [List.length_append, HML.out]; rfl, by rw [HSN.out, List.map_append]; rfl, HO1.out⟩, by simp [intOf]; omega⟩
    · obtain rfl : i = l.length := by omega
      have c1 : ((l.length : Int) < (l.length : Int)) = False := eq_false (by omega)
      have HSS := Lib.hid (rot_same hk HMN.out)
      have hsr := HSS.out.rings n
      obtain ⟨adM, cpM, rfl, -, hPM, -⟩ := HO.out.slice
      have HB := Lib.hid HO.out.hb
      have HPM := Lib.hid hPM
      have hML : M.length = l.length := HML.out
      rw [hML]
      obtain ⟨L, hL⟩ : ∃ L, (ringsR n l).1 = L := ⟨_, rfl⟩
      obtain ⟨e, he⟩ : ∃ e, (ringsR n l).2.2 = e := ⟨_, rfl⟩
      obtain ⟨x1, hx1⟩ : ∃ x, (ringsR n l).2.1 = x := ⟨_, rfl⟩
      obtain ⟨x2, hx2⟩ : ∃ x, (ringsR n M).2.1 = x := ⟨_, rfl⟩
      have hr1 : ringsR n l = (L, x1, e) := by rw [← hL, ← he, ← hx1]
      have hr2 : ringsR n M = (L, x2, e) := by rw [← hL, ← he, ← hx2, hsr.1, hsr.2]
      have hLs := rings_size hr1 (by omega)
      have HR1 := Lib.hid (fun W (h : Below w.heap.size w W) => rings_at hr1 (some ⟨g, o, none⟩) cap W (HP.out.below h) (by omega) (by omega))
      have HR2 := Lib.hid (fun W (h : Below wr.heap.size wr W) => rings_at hr2 adM cpM W (HPM.out.below h) (by omega) (by omega))
      rw [hML] at HR2
      have HSA := Lib.hid (fun W a b (h1 : RowsAt W a L) (h2 : RowsAt W b L) (ca cb : Nat) => same_l L L a b ca cb L.length L.length W h1 h2 rfl rfl hLs.1 hLs.2)
      simp only [decide_true] at HSA
      clear hL he hx1 hx2 hr1 hr2 hsr hLs HSS HMN HML HO hPM b3 b4 b5 hML
      go_wp2_with fail
      (with_reducible refine (HR1.out _ HB.out).mono ?_); rintro en w6 ⟨a6, c6, rfl, hA, -, -, hb6⟩
      have HB6 := Lib.hid hb6
      have HA := Lib.hid hA
      clear hb6 HR1 hA
      go_wp2_with fail
      (with_reducible refine (HR2.out _ HB6.out).mono ?_); rintro en w7 ⟨a7, c7, rfl, hC, -, -, hb7⟩
      replace HA := Lib.hid (HA.out.below hb7)
      have HC := Lib.hid hC
      replace HB6 := Lib.hid (bl_trans HB6.out hb7)
      clear hb7 HR2 hC
      have ee : (e == e) = true := by simp
      go_wp2_with fail
      (with_reducible refine (HSA.out _ _ _ HA.out HC.out _ _).mono ?_); rintro en w8 ⟨rfl, hb8⟩
      replace HB6 := Lib.hid (bl_trans HB6.out hb8)
      clear hb8 HSA HA HC
      go_wp2_with fail
      (with_reducible refine (K.out _).mono ?_); rintro en w9 ⟨rfl, hb9⟩
      replace HB6 := Lib.hid (bl_trans HB6.out hb9)
      clear hb9
      go_wp2_with fail
      go_ret
      exact ⟨rfl, bl_trans HB.out HB6.out⟩
end Go.Proofs.Ytpockemjfbaheaa
