/-
  The walk of the law TokenJoins.
-/
import Derived.Test.YtdoilgddlhadhaaJoinC
import Derived.Test.YtdoilgddlhadhaaCom
import Derived.Lib.ConvBytes
namespace Go.Proofs.Ytdoilgddlhadhaa
open Go.RowKit

def sv (l : List ByteArray) : List Value := l.map fun t => .string t
theorem info_str : (Try.prog.info? 9).map (fun i => (i.zero, i.size, i.bytes)) = some (some (.string ⟨#[]⟩), 1, 16) := by kernel_rfl
/-- a row of texts, the call's own -/
structure Os (W0 : World) (v : Value) (L : List ByteArray) (W : World) : Prop where
  own : W.ownsRow W0.heap.size 9 1 v L.length (sv L)
  hb : Below W0.heap.size W0 W
  sz : W0.heap.size ≤ W.heap.size
theorem Os.alloc {W0 W : World} {v : Value} {L : List ByteArray} (h : Os W0 v L W) (o : Obj) : Os W0 v L (W.alloc o) :=
  ⟨h.own.alloc o, h.hb.alloc h.sz o, by simp; have := h.sz; omega⟩
theorem Os.more {W0 W W' : World} {v v' : Value} {L M : List ByteArray} {n : Nat} (h : Os W0 v L W) (hn : n = (L ++ M).length) (ho : W'.ownsRow W0.heap.size 9 1 v' n (sv L ++ sv M)) (hg : W.grownBy W' v.ownBlock) : Os W0 v' (L ++ M) W' :=
  ⟨by subst hn; unfold sv at *; rw [List.map_append]; exact ho, h.hb.grown hg h.sz (fun k e => (h.own.lt k e).1), Nat.le_trans h.sz hg.size⟩
theorem words_ok2 (s c : ByteArray) (h1 : s.size ≤ 5000) (h2 : c.size ≤ 5000) : ∀ x ∈ (wordsOf s).map (·.2) ++ (wordsOf c).map (·.2), WordOk (nums x) ∧ x.size ≤ 5000 := by
  have key : ∀ t : ByteArray, t.size ≤ 5000 → ∀ x ∈ (wordsOf t).map (·.2), WordOk (nums x) ∧ x.size ≤ 5000 := by
    intro t ht x hx
    obtain ⟨y, hy, rfl⟩ := List.mem_map.1 hx
    obtain ⟨i, hi, rfl⟩ := List.getElem_of_mem hy
    refine ⟨word_ok t hi, ?_⟩
    obtain ⟨a, b, e, ha, -, -⟩ := words_at t hi
    rw [e]
    show (t.extract a b).size ≤ 5000
    rw [ByteArray.size_extract]
    omega
  intro x hx
  rcases List.mem_append.1 hx with h | h
  · exact key s h1 x h
  · exact key c h2 x h
theorem sv_one (l : List ByteArray) : ∀ u ∈ sv l, u.oneCell' = true := by
  intro u hu
  simp [sv] at hu
  obtain ⟨d, -, rfl⟩ := hu
  rfl
theorem wnum2 {i : Nat} (hi : i ≤ 100000) : wrap64 (i : Int) = (i : Int) ∧ IntKind.i64.wrap (i : Int) = (i : Int) ∧ wrap64 ((i : Int) + 1) = (i : Int) + 1 ∧ IntKind.i64.wrap ((i : Int) + 1) = (i : Int) + 1 :=
  ⟨by unfold wrap64; omega, IntWalk.i64_in _ (by omega), by unfold wrap64; omega, IntWalk.i64_in _ (by omega)⟩
theorem wsub2 {i k j : Nat} (h : i = k + j) (hi : i ≤ 100000) : (i : Int) - (k : Int) = (j : Int) ∧ wrap64 ((i : Int) - (k : Int)) = (j : Int) ∧ IntKind.i64.wrap ((i : Int) - (k : Int)) = (j : Int) ∧ wrap64 (j : Int) = (j : Int) :=
  ⟨by omega, by unfold wrap64; omega, (IntWalk.i64_in _ (by omega)).trans (by omega), by unfold wrap64; omega⟩
/-- texts of a row, in memory -/
def StrRow (W : World) (ad : Option Addr) (L : List ByteArray) : Prop := ∀ i (h : i < L.length), ∃ g o, ad = some ⟨g, o, none⟩ ∧ W.cell? ⟨g, o + i, none⟩ = some (.string L[i])
theorem StrRow.below {W W' : World} {ad : Option Addr} {L : List ByteArray} (h : StrRow W ad L) (hb : Below W.heap.size W W') : StrRow W' ad L := by
  intro i hi
  obtain ⟨g, o, e, h1⟩ := h i hi
  exact ⟨g, o, e, (hb.cell (cell_lt h1)).trans h1⟩
theorem strRow_at {W : World} {g o : Nat} {L : List ByteArray} (h : StrRow W (some ⟨g, o, none⟩) L) {i : Nat} (hi : i < L.length) {t : ByteArray} (e : L[i] = t) : W.cell? ⟨g, o + i, none⟩ = some (.string t) := by
  obtain ⟨g', o', e1, h1⟩ := h i hi
  simp only [Option.some.injEq, Addr.mk.injEq, and_true] at e1
  obtain ⟨rfl, rfl⟩ := e1
  rw [h1, e]
theorem os_row {W0 W : World} {v : Value} {L : List ByteArray} (h : Os W0 v L W) : ∃ ad cap, v = .slice ad L.length cap ∧ L.length ≤ cap ∧ StrRow W ad L := by
  have ho := h.own
  rcases ho.2 with ⟨rfl, hn⟩ | ⟨g, cap, cur, rfl, -, -, hcap, -⟩
  · exact ⟨none, 0, by rw [hn], by omega, fun i hi => absurd hi (by omega)⟩
  · refine ⟨_, cap, rfl, hcap, fun i hi => ⟨g, 0, rfl, ?_⟩⟩
    have hc := ho.cells (g := g) rfl
    have h2 := hc i (.string L[i]) (by unfold sv; simp [hi])
    have add : (⟨g, 0, none⟩ : Addr).add i = ⟨g, i, none⟩ := by unfold Addr.add; split <;> simp_all
    rw [add] at h2
    rw [Nat.zero_add]
    exact h2
theorem joinL_ge (xs : List ByteArray) : (joinL (xs.map nums)).length = (((xs.map nums).map List.length).sum) + xs.length := by
  rw [joinL_len, offL_sum, List.length_map]
set_option maxHeartbeats 2000000 in
set_option maxRecDepth 100000 in
theorem tjoin_any (ad : Option Addr) (cap : Nat) (xs : List ByteArray) (w : World) (h : StrRow w ad xs) (hcap : xs.length ≤ cap) (hlen : (joinL (xs.map nums)).length ≤ 100000000) :
    Calls Try.prog 19 #[.slice ad xs.length cap] w fun e w' => ∃ s, e = .returned (.string s) ∧ Hid (nums s = joinL (xs.map nums)) ∧ Below w.heap.size w w' := by
  cases xs with
  | nil =>
    clear h hlen
    go_enter Try.func19, Try.ntmps19
    go_wp2
    go_ret
    exact ⟨⟨#[]⟩, rfl, rfl, Below.refl _ _⟩
  | cons x r =>
    obtain ⟨g, o, rfl, h0⟩ := h 0 (by simp)
    refine tjoin_c g o cap (x :: r) (by simp) w (fun j y hj => ?_) (cell_lt h0) ?_ hcap hlen
    · obtain ⟨hj1, rfl⟩ := List.getElem?_eq_some_iff.1 hj
      exact strRow_at h hj1 rfl
    · have := joinL_ge (x :: r)
      omega
theorem bytesWorld_bl (w : World) (e : TypeId) (s : ByteArray) : Below w.heap.size w (Lib.bytesWorld w e s) :=
  ⟨by simp [Lib.bytesWorld, World.freeze, World.alloc, World.drew, -World.alloc_eq, -World.drew_eq], by simp [Lib.bytesWorld, World.freeze, World.alloc, World.drew, -World.alloc_eq, -World.drew_eq], by simp [Lib.bytesWorld, World.freeze, World.alloc, World.drew, -World.alloc_eq, -World.drew_eq], by rw [Lib.bytesWorld_size]; omega, fun k hk => Lib.bytesWorld_at_old w e s k hk⟩
theorem bytesWorld_in (w : World) (e : TypeId) (s : ByteArray) : BytesIn (Lib.bytesWorld w e s) (some ⟨w.heap.size, 0, none⟩) s := by
  intro i hi
  refine ⟨_, 0, rfl, ?_⟩
  rw [Nat.zero_add, Lib.bytesWorld_cell w e s i hi]
  have hi2 : i < s.data.toList.length := by simpa using hi
  rw [List.getD_eq_getElem?_getD, List.getElem?_eq_getElem hi2]
  simp only [Option.getD_some, Array.getElem_toList]
  rfl
theorem join_bound (s c : ByteArray) (h1 : s.size ≤ 5000) (h2 : c.size ≤ 5000) : (joinL (((wordsOf s).map (·.2) ++ (wordsOf c).map (·.2)).map nums)).length ≤ 20002 := by
  rw [joinL_ge]
  have a1 := words_sum s
  have a2 := words_sum c
  have a3 := words_len s
  have a4 := words_len c
  simp only [List.map_append, List.sum_append, List.length_append, List.length_map] at *
  omega
theorem words_join2 (sj : ByteArray) (xs : List ByteArray) (hok : ∀ x ∈ xs, WordOk (nums x) ∧ x.size ≤ 5000) (hj : nums sj = joinL (xs.map nums)) (hl : (joinL (xs.map nums)).length ≤ 20002) :
    ∃ tk, wordsOf sj = tk ∧ tk.length = xs.length ∧ sj.size = offL (xs.map nums) xs.length ∧ sj.size ≤ 20002 ∧ ∀ i (h : i < tk.length) (h' : i < xs.length), tk[i] = (offL (xs.map nums) i, xs[i]) := by
  obtain ⟨q1, q2, q3⟩ := words_join sj xs (fun x hx => (hok x hx).1) hj
  exact ⟨_, rfl, q1, q2, by rw [← nums_length, hj]; exact hl, q3⟩
theorem offL_map (xs : List ByteArray) {i : Nat} (h : i < xs.length) : offL (xs.map nums) (i + 1) = offL (xs.map nums) i + xs[i].size + 1 := by
  rw [offL_step _ _ (by simpa using h)]
  simp [List.getD_eq_getElem?_getD, h, nums_length]
theorem offL_mono (ts : List (List Int)) : ∀ {i k : Nat}, i ≤ k → k ≤ ts.length → offL ts i ≤ offL ts k := by
  intro i k h
  induction h with
  | refl => intro _; exact Nat.le_refl _
  | @step m h ih =>
    intro hk
    have h1 := offL_step ts m (show m < ts.length by omega)
    have h2 := ih (by omega)
    show offL ts i ≤ offL ts (m + 1)
    rw [h1]
    omega

set_option maxHeartbeats 16000000 in
set_option maxRecDepth 100000 in
theorem joins_l (adb adc : Option Addr) (cpb cpc : Nat) (s c : ByteArray) (w : World) (hB : BytesIn w adb s) (hC : BytesIn w adc c) :
    Calls Try.prog 7 #[.slice adb s.size cpb, .slice adc c.size cpc] w (Gives (.bool true) w) := by
  have K := Lib.hid (fun W => known_c W)
  have HC := Lib.hid hC
  have HT : Hid (TextOf w (.slice adb s.size cpb) s) := text_of hB
  clear hB hC
  go_enter Try.func7, Try.ntmps7
  by_cases hbig : 5000 < s.size ∨ 5000 < c.size
  · rcases Nat.lt_or_ge 5000 s.size with h1 | h1
    · have b1 : ((5000 : Int) < (s.size : Int)) = True := by simp; omega
      go_wp2_with fail
      (with_reducible refine (K.out _).mono ?_); rintro e w1 ⟨rfl, hb1⟩
      go_wp2
      go_ret
      exact ⟨rfl, by repeat (first | (with_reducible exact Below.refl _ _) | (with_reducible refine bl_alloc ?_ _) | (with_reducible refine Below.drew ?_) | (with_reducible refine below_drewN' ?_ _) | (with_reducible refine bl_trans ?_ hb1) | ((with_reducible refine bl_set ?_ ?_ _); (rotate_left; (dsimp only; omega))))⟩
    · have b1 : ((5000 : Int) < (s.size : Int)) = False := by simp; omega
      have b2 : ((5000 : Int) < (c.size : Int)) = True := by simp; omega
      go_wp2_with fail
      (with_reducible refine (K.out _).mono ?_); rintro e w1 ⟨rfl, hb1⟩
      go_wp2
      go_ret
      exact ⟨rfl, by repeat (first | (with_reducible exact Below.refl _ _) | (with_reducible refine bl_alloc ?_ _) | (with_reducible refine Below.drew ?_) | (with_reducible refine below_drewN' ?_ _) | (with_reducible refine bl_trans ?_ hb1) | ((with_reducible refine bl_set ?_ ?_ _); (rotate_left; (dsimp only; omega))))⟩
  obtain ⟨h1, h2⟩ : s.size ≤ 5000 ∧ c.size ≤ 5000 := by omega
  have b1 : ((5000 : Int) < (s.size : Int)) = False := by simp; omega
  have b2 : ((5000 : Int) < (c.size : Int)) = False := by simp; omega
  clear hbig
  have HL := words_len s
  have HL2 := words_len c
  have CA := Lib.hid (all_w adb s.size cpb s rfl (by omega) w HT.out)
  have HOK : Hid (∀ x ∈ (wordsOf s).map (·.2) ++ (wordsOf c).map (·.2), WordOk (nums x) ∧ x.size ≤ 5000) := words_ok2 s c h1 h2
  have HLJ : Hid ((joinL (((wordsOf s).map (·.2) ++ (wordsOf c).map (·.2)).map nums)).length ≤ 20002) := join_bound s c h1 h2
  have CB := Lib.hid (fun W (h : BytesIn W adc c) => all_w adc c.size cpc c rfl (by omega) W (text_of h))
  generalize wordsOf s = ts at *
  generalize wordsOf c = tm at *
  clear HT
  go_upto_region 3 with (fail)
  go_cut [5, 6] (fun lv ev W => ∃ a1 c1, lv = .slice a1 ts.length c1 ∧ ev = .int .i64 0 ∧ TokCells W a1 ts ∧ Below w.heap.size w W)
  case first =>
    go_wp2_with fail
    (with_reducible refine CA.out.mono ?_); rintro e w1 ⟨a1, c1, rfl, hT1, hb1⟩
    go_wp2_with fail
    go_meet
    case rel => exact ⟨a1, c1, rfl, rfl, hT1, hb1⟩
  case rest =>
  obtain ⟨a1, c1, rfl, rfl, hT1, hb1⟩ := hcut
  have HT1 := Lib.hid hT1
  have HB1 := Lib.hid hb1
  clear hT1 hb1 CA b1 b2
  go_upto_region 4 with (fail)
  go_cut [7, 8] (fun lv ev W => ∃ a2 c2, lv = .slice a2 tm.length c2 ∧ ev = .int .i64 0 ∧ TokCells W a1 ts ∧ TokCells W a2 tm ∧ Below w.heap.size w W)
  case first =>
    go_wp2_with fail
    (with_reducible refine (CB.out _ (HC.out.below HB1.out)).mono ?_); rintro e w1 ⟨a2, c2, rfl, hT2, hb1⟩
    have HX := Lib.hid (And.intro (HT1.out.below hb1) (And.intro hT2 (bl_trans HB1.out hb1)))
    clear hT2 hb1
    go_wp2_with fail
    go_meet
    case rel => exact ⟨a2, c2, rfl, rfl, HX.out⟩
  case rest =>
  obtain ⟨a2, c2, rfl, rfl, hS⟩ := hcut
  obtain ⟨W0, hW0⟩ : ∃ W0, W0 = wc := ⟨_, rfl⟩
  subst hW0
  clear HT1 HB1 CB HC
  have HS := Lib.hid hS
  clear hS
  obtain ⟨xs, hxs⟩ : ∃ xs, ts.map (·.2) ++ tm.map (·.2) = xs := ⟨_, rfl⟩
  have hxl : xs.length = ts.length + tm.length := by rw [← hxs]; simp
  rw [hxs] at HOK HLJ
  have HX1 : Hid (∀ i (h : i < ts.length) (h' : i < xs.length), xs[i] = ts[i].2) := by
    intro i h h'
    subst hxs
    rw [List.getElem_append_left (by simpa using h)]
    simp
  have HX2 : Hid (∀ i j (e : i = ts.length + j) (h : j < tm.length) (h' : i < xs.length), xs[i] = tm[j].2) := by
    intro i j e h h'
    subst hxs
    subst e
    rw [List.getElem_append_right (by simp)]
    simp
  clear hxs
  obtain ⟨e0, hi0, hz0, hz1, hz2⟩ := info_parts info_str
  go_wp2_with fail
  go_loopw [9, 10] (fun av iv W => ∃ i : Nat, i ≤ xs.length ∧ iv = .int .i64 i ∧ Os W0 av (xs.take i) W) (fun _ iv _ => xs.length - (intOf iv).toNat)
  case atStart => exact ⟨0, by omega, rfl, by rw [List.take_zero]; exact ⟨World.ownsRow_nil _ _ _ _, Below.refl _ _, Nat.le_refl _⟩⟩
  case round =>
    obtain ⟨i, hi, rfl, hO⟩ := hrel
    have HO := Lib.hid hO
    clear hO
    by_cases hlt : i < xs.length
    · have b4 : ((i : Int) < (ts.length : Int) + (tm.length : Int)) = True := eq_true (by omega)
      obtain ⟨t, ht⟩ : ∃ t, xs[i] = t := ⟨_, rfl⟩
      have HTK := Lib.hid (show xs.take (i + 1) = xs.take i ++ [t] by rw [List.take_succ_eq_append_getElem hlt, ht])
      have hln : (xs.take i).length = i := by rw [List.length_take]; omega
      have hi9 : i ≤ 100000 := by omega
      obtain ⟨L1, hL1⟩ : ∃ L, xs.take i = L := ⟨_, rfl⟩
      rw [hL1] at HO hln
      have HL1 := Lib.hid hL1
      clear hL1
      by_cases h5 : i < ts.length
      · have b5 : ((i : Int) < (ts.length : Int)) = True := eq_true (by omega)
        have e1 := HX1.out i h5 hlt
        rw [ht] at e1
        obtain ⟨g, o, rfl, -, k1⟩ := (HS.out.1.below HO.out.hb) i h5
        rw [← e1] at k1
        clear e1 ht
        obtain ⟨m1, m2, m3, m4⟩ := wnum2 hi9
        go_wp2_with (first | (at_builtin; refine wpList_append_own_at _ rfl _ _ 50 rfl W0.heap.size 9 e0 (.string ⟨#[]⟩) 1 16 Try.underlying50 hi0 hz0 hz1 hz2 rfl (by decide) _ _ _ rfl (HO.out.alloc _).own ⟨_, 0, none⟩ 1 1 (sv [t]) rfl rfl (cell_one_new _ _ _) (sv_one _) ?ca ?cb ?cc ?_) | go_in)
        case ca => (try clear f2 f3 f4); clear m1 m2 m3 m4; unfold maxLen; omega
        case cb => (try clear f2 f3 f4); clear m1 m2 m3 m4; omega
        case cc => exact (HO.out.alloc _).sz
        intro v' w1 hown hgrow _ _
        have HO2 := Lib.hid ((HO.out.alloc _).more (n := i + 1) (M := [t]) (by simp [hln]) hown hgrow)
        clear hown hgrow
        go_wp2_with fail
        clear m1 m2 m3 m4
        go_roundw
        case rel => exact ⟨i + 1, hlt, by rw [Int.natCast_add]; rfl, by rw [HTK.out, HL1.out]; exact HO2.out⟩
        case measure => simp [intOf]; omega
      · have b5 : ((i : Int) < (ts.length : Int)) = False := eq_false (by omega)
        obtain ⟨j, hj⟩ : ∃ j, i = ts.length + j := ⟨i - ts.length, by omega⟩
        have hjt : j < tm.length := by omega
        have e1 : t = tm[j].2 := ht.symm.trans (HX2.out i j hj hjt hlt)
        obtain ⟨g, o, rfl, -, k1⟩ := (HS.out.2.1.below HO.out.hb) j hjt
        rw [← e1] at k1
        have b6 : ((j : Int) < (tm.length : Int)) = True := eq_true (by omega)
        have HJ := Lib.hid hj
        clear e1 ht hj
        go_upto_region 13 with (fail)
        obtain ⟨f1, f2, f3, f4⟩ := wsub2 HJ.out hi9
        obtain ⟨m1, m2, m3, m4⟩ := wnum2 hi9
        go_wp2_with (first | (at_builtin; refine wpList_append_own_at _ rfl _ _ 50 rfl W0.heap.size 9 e0 (.string ⟨#[]⟩) 1 16 Try.underlying50 hi0 hz0 hz1 hz2 rfl (by decide) _ _ _ rfl (HO.out.alloc _).own ⟨_, 0, none⟩ 1 1 (sv [t]) rfl rfl (cell_one_new _ _ _) (sv_one _) ?ca ?cb ?cc ?_) | go_in)
        case ca => (try clear f2 f3 f4); clear m1 m2 m3 m4; unfold maxLen; omega
        case cb => (try clear f2 f3 f4); clear m1 m2 m3 m4; omega
        case cc => exact (HO.out.alloc _).sz
        intro v' w1 hown hgrow _ _
        have HO2 := Lib.hid ((HO.out.alloc _).more (n := i + 1) (M := [t]) (by simp [hln]) hown hgrow)
        clear hown hgrow
        go_wp2_with fail
        clear m1 m2 m3 m4 f1 f2 f3 f4
        go_roundw
        case rel => exact ⟨i + 1, hlt, by rw [Int.natCast_add]; rfl, by rw [HTK.out, HL1.out]; exact HO2.out⟩
        case measure => simp [intOf]; omega
    · obtain rfl : i = xs.length := by omega
      have b4 : ((xs.length : Int) < (ts.length : Int) + (tm.length : Int)) = False := eq_false (by omega)
      rw [List.take_length] at HO
      obtain ⟨ad, cap, rfl, hcap, hR⟩ := os_row HO.out
      have HR := Lib.hid hR
      have HB0 := Lib.hid HO.out.hb
      have HJC := Lib.hid (tjoin_any ad cap xs _ hR hcap (by have := HLJ.out; omega))
      have HBW := Lib.hid HS.out.2.2
      have HXL := Lib.hid hxl
      have hxb : xs.length ≤ 10002 := by omega
      clear HO hR HX1 HX2 hcap HS hxl
      go_upto_region 14 with (fail)
      clear b4
      go_cut [11] (fun sv W => ∃ sj : ByteArray, sv = .string sj ∧ Hid (nums sj = joinL (xs.map nums)) ∧ StrRow W ad xs ∧ Below W0.heap.size W0 W)
      case first =>
        go_wp2_with fail
        (with_reducible refine HJC.out.mono ?_); rintro e w1 ⟨sj, rfl, hj, hb1⟩
        have HX : Hid (StrRow w1 ad xs ∧ Below W0.heap.size W0 w1) := ⟨HR.out.below hb1, bl_trans HB0.out hb1⟩
        clear hb1
        go_wp2_with fail
        go_meet
        case rel => exact ⟨sj, rfl, hj, HX.out⟩
      case rest =>
      obtain ⟨sj, rfl, hj, hS2⟩ := hcut
      clear HR HB0 HJC
      obtain ⟨tk, hwk, q1, q2, hsz, q3⟩ := words_join2 sj xs HOK.out hj.out HLJ.out
      have HQ2 := Lib.hid q2
      have HQ1 := Lib.hid q1
      have HQ3 := Lib.hid q3
      have HS2 := Lib.hid hS2
      have hcv := Lib.run_convert_string_bytes (P := Try.prog) wc 9 22 5 sj (u := .string) Try.underlying9 Try.underlying22 Try.underlying5
      have hb3 := bytesWorld_bl wc 5 sj
      have hB3 := bytesWorld_in wc 5 sj
      generalize Lib.bytesWorld wc 5 sj = w3 at hcv hb3 hB3
      generalize grownCap wc sj.size 0 5 = cp3 at hcv
      have HA3 := Lib.hid (all_w (some ⟨wc.heap.size, 0, none⟩) sj.size cp3 sj rfl (by omega) w3 (text_of hB3))
      rw [hwk] at HA3
      have HB3 := Lib.hid hb3
      have hx0 : xs.length = 0 → sj = ⟨#[]⟩ := by
        intro h0
        have : sj.size = 0 := by rw [q2, h0, offL]
        exact ByteArray.ext (Array.eq_empty_of_size_eq_zero this)
      have hx1 : xs.length ≠ 0 → 0 < sj.size := by
        intro h0
        have h4 := offL_map xs (i := 0) (by omega)
        have h5 := offL_mono (xs.map nums) (i := 0 + 1) (k := xs.length) (by omega) (by simp)
        omega
      have HX0 := Lib.hid hx0
      have HX1 := Lib.hid hx1
      clear q1 q2 q3 hS2 hb3 hB3 hj hwk hx0 hx1 HOK
      go_upto_region 15 with (fail)
      go_cut [12, 13] (fun kv ev W => ∃ a3 c3, kv = .slice a3 tk.length c3 ∧ ev = .int .i64 0 ∧ (fun W => TokCells W a3 tk ∧ StrRow W ad xs ∧ Below W0.heap.size W0 W) W)
      case first =>
        go_wp2_with fail
        (with_reducible refine HA3.out.mono ?_); rintro e w1 ⟨a3, c3, rfl, hT3, hb1⟩
        have HX : Hid ((fun W => TokCells W a3 tk ∧ StrRow W ad xs ∧ Below W0.heap.size W0 W) w1) := ⟨hT3, (HS2.out.1.below HB3.out).below hb1, bl_trans (bl_trans HS2.out.2 HB3.out) hb1⟩
        clear hT3 hb1
        go_wp2_with fail
        go_meet
        case rel => exact ⟨a3, c3, rfl, rfl, HX.out⟩
      case rest =>
      obtain ⟨a3, c3, rfl, rfl, hS3⟩ := hcut
      have HS0 := Lib.hid hS3
      clear hS3 hcv HA3 HB3 HS2
      go_upto_region 16 with (fail)
      go_cut [97] (fun tv W => tv = .bool false ∧ (fun W => TokCells W a3 tk ∧ StrRow W ad xs ∧ Below W0.heap.size W0 W) W)
      case first =>
        rcases Nat.eq_zero_or_pos xs.length with h0 | h0
        · obtain rfl := HX0.out h0
          have b7 : ((xs.length : Int) == 0) = true := by simp; exact List.length_eq_zero_iff.1 h0
          have b8 : ((tk.length : Int) == (xs.length : Int)) = true := by have := HQ1.out; simp; omega
          have e8 : ((tk.length : Int) = (xs.length : Int)) = True := eq_true (by have := HQ1.out; omega)
          have e9 : (tk.length = xs.length) = True := eq_true HQ1.out
          have e8b : ((tk.length : Int) != (xs.length : Int)) = false := by rw [bne, b8]; rfl
          have e7 : ((xs.length : Int) = 0) = True := eq_true (by omega)
          have e6 : (xs.length = 0) = True := eq_true h0
          have e5 : (xs = []) = True := eq_true (List.length_eq_zero_iff.1 h0)
          clear h0
          go_wp2_with fail
          all_goals (go_meet; case rel => exact ⟨rfl, HS0.out⟩)
        · have h9 := HX1.out (by omega)
          have b9 := toList_ne h9
          have b7 : ((xs.length : Int) == 0) = false := beq_eq_false_iff_ne.mpr (by omega)
          have b8 : ((tk.length : Int) == (xs.length : Int)) = true := by have := HQ1.out; simp; omega
          have e8 : ((tk.length : Int) = (xs.length : Int)) = True := eq_true (by have := HQ1.out; omega)
          have e9 : (tk.length = xs.length) = True := eq_true HQ1.out
          have e8b : ((tk.length : Int) != (xs.length : Int)) = false := by rw [bne, b8]; rfl
          have e7 : ((xs.length : Int) = 0) = False := eq_false (by omega)
          have e6 : (xs.length = 0) = False := eq_false (by omega)
          have e5 : (xs = []) = False := eq_false (fun h => by rw [h] at h0; exact Nat.lt_irrefl _ h0)
          go_wp2_with fail
          all_goals (go_meet; case rel => exact ⟨rfl, HS0.out⟩)
      case rest =>
      obtain ⟨rfl, hS3⟩ := hcut
      clear HS0 HX0 HX1
      have HS0 := Lib.hid hS3
      clear hS3
      go_wp2_with fail
      go_loopw [14, 15] (fun av iv W => ∃ i : Nat, i ≤ xs.length ∧ av = .int .i64 (offL (xs.map nums) i : Nat) ∧ iv = .int .i64 i ∧ (fun W => TokCells W a3 tk ∧ StrRow W ad xs ∧ Below W0.heap.size W0 W) W) (fun _ iv _ => xs.length - (intOf iv).toNat)
      case atStart => exact ⟨0, by omega, by rw [offL]; rfl, rfl, HS0.out⟩
      case round =>
        obtain ⟨i, hi, rfl, rfl, hS⟩ := hrel
        clear HS0
        have HS0 := Lib.hid hS
        clear hS
        have hof := offL_mono (xs.map nums) hi (by simp)
        have ha : offL (xs.map nums) i ≤ 20002 := by have := HQ2.out; omega
        clear hof
        by_cases hlt : i < xs.length
        · have hltk : i < tk.length := by have := HQ1.out; omega
          have b4 : ((i : Int) < (tk.length : Int)) = True := eq_true (by omega)
          obtain ⟨t, ht⟩ : ∃ t, xs[i] = t := ⟨_, rfl⟩
          have hnx := offL_map xs hlt
          have hex := HQ3.out i hltk hlt
          have hny := offL_mono (xs.map nums) (i := i + 1) (k := xs.length) hlt (by simp)
          have hts : offL (xs.map nums) i + t.size + 1 ≤ 20002 := by have := HQ2.out; rw [ht] at hnx; omega
          rw [ht] at hex hnx
          obtain ⟨a, hae⟩ : ∃ a, offL (xs.map nums) i = a := ⟨_, rfl⟩
          rw [hae] at hex hnx hts ha ⊢
          have HE := Lib.hid hex
          have HTX := Lib.hid ht
          have HN := Lib.hid hnx
          clear hex ht hnx hny hae
          obtain ⟨g3, o3, rfl, -, -⟩ := HS0.out.1 i hltk
          obtain ⟨g4, o4, rfl, -⟩ := HS0.out.2.1 i hlt
          go_upto_region 22 with (fail)
          go_cut [122] (fun tv W => tv = .bool false ∧ (fun W => TokCells W (some ⟨g3, o3, none⟩) tk ∧ StrRow W (some ⟨g4, o4, none⟩) xs ∧ Below W0.heap.size W0 W) W)
          case first =>
            clear HQ2 HQ3 K HN
            refine wp_region_held_drew (S := fun W => TokCells W (some ⟨g3, o3, none⟩) tk ∧ StrRow W (some ⟨g4, o4, none⟩) xs ∧ Below W0.heap.size W0 W) (by kernel_rfl) ?_ (fun hHeld => ?_)
            · exact ⟨HS0.out.1.below (bel_drew _), HS0.out.2.1.below (bel_drew _), bl_trans HS0.out.2.2 (bel_drew _)⟩
            revert hHeld
            generalize World.drew _ = W1
            intro hHeld
            refine wpAnyH_take (i := 0) (v := ?_) rfl (by kernel_rfl) (by kernel_rfl) (by kernel_rfl) (fun _ _ _ h => h) (Or.inl ⟨by rfl, ?_⟩) (by assumption) ?_
            rotate_left
            · intro Wq hSw
              clear hSw
              go_simp
              all_goals (with_reducible rfl)
            try simp only [Act.put, List.getElem_toArray, List.getElem_cons_zero, List.setIfInBounds_toArray, List.set_cons_zero, List.set_cons_succ]
            refine wpAnyH_take (i := 1) (v := ?_) rfl (by kernel_rfl) (by kernel_rfl) (by kernel_rfl) (fun _ _ _ h => h) (Or.inl ⟨by rfl, ?_⟩) (by assumption) ?_
            rotate_left
            · intro Wq hSw
              clear hSw
              go_simp
              all_goals (with_reducible rfl)
            try simp only [Act.put, List.getElem_toArray, List.getElem_cons_succ, List.getElem_cons_zero, List.setIfInBounds_toArray, List.set_cons_zero, List.set_cons_succ]
            refine wpAnyH_take (i := 2) (v := ?_) rfl (by kernel_rfl) (by kernel_rfl) (by kernel_rfl) (fun _ _ _ h => h) (Or.inl ⟨by rfl, ?_⟩) (by assumption) ?_
            rotate_left
            · intro Wq hSw
              clear hSw
              go_simp
              all_goals (with_reducible rfl)
            try simp only [Act.put, List.getElem_toArray, List.getElem_cons_succ, List.getElem_cons_zero, List.setIfInBounds_toArray, List.set_cons_zero, List.set_cons_succ]
            refine wpAnyH_take (i := 3) (v := ?_) rfl (by kernel_rfl) (by kernel_rfl) (by kernel_rfl) (fun _ _ _ h => h) (Or.inl ⟨by rfl, ?_⟩) (by assumption) ?_
            rotate_left
            · intro Wq hSw
              clear hSw
              go_simp
              all_goals (with_reducible rfl)
            try simp only [Act.put, List.getElem_toArray, List.getElem_cons_succ, List.getElem_cons_zero, List.setIfInBounds_toArray, List.set_cons_zero, List.set_cons_succ]
            refine wpAnyH_take (i := 4) (v := ?_) rfl (by kernel_rfl) (by kernel_rfl) (by kernel_rfl) (fun _ _ _ h => h) (Or.inl ⟨by rfl, ?_⟩) (by assumption) ?_
            rotate_left
            · intro Wq hSw
              obtain ⟨k0, k1⟩ := tokCells_at (id hSw).1 hltk HE.out
              clear hSw
              go_simp
              all_goals (with_reducible rfl)
            try simp only [Act.put, List.getElem_toArray, List.getElem_cons_succ, List.getElem_cons_zero, List.setIfInBounds_toArray, List.set_cons_zero, List.set_cons_succ]
            refine wpAnyH_take (i := 5) (v := ?_) rfl (by kernel_rfl) (by kernel_rfl) (by kernel_rfl) (fun _ _ _ h => h) (Or.inl ⟨by rfl, ?_⟩) (by assumption) ?_
            rotate_left
            · intro Wq hSw
              clear hSw
              go_simp
              all_goals (with_reducible rfl)
            try simp only [Act.put, List.getElem_toArray, List.getElem_cons_succ, List.getElem_cons_zero, List.setIfInBounds_toArray, List.set_cons_zero, List.set_cons_succ]
            refine wpAnyH_take (i := 6) (v := ?_) rfl (by kernel_rfl) (by kernel_rfl) (by kernel_rfl) (fun _ _ _ h => h) (Or.inl ⟨by rfl, ?_⟩) (by assumption) ?_
            rotate_left
            · intro Wq hSw
              clear hSw
              go_simp
              all_goals (with_reducible rfl)
            try simp only [Act.put, List.getElem_toArray, List.getElem_cons_succ, List.getElem_cons_zero, List.setIfInBounds_toArray, List.set_cons_zero, List.set_cons_succ]
            refine wpAnyH_take (i := 7) (v := ?_) rfl (by kernel_rfl) (by kernel_rfl) (by kernel_rfl) (fun _ _ _ h => h) (Or.inl ⟨by rfl, ?_⟩) (by assumption) ?_
            rotate_left
            · intro Wq hSw
              clear hSw
              go_simp
              all_goals (with_reducible rfl)
            try simp only [Act.put, List.getElem_toArray, List.getElem_cons_succ, List.getElem_cons_zero, List.setIfInBounds_toArray, List.set_cons_zero, List.set_cons_succ]
            refine wpAnyH_take (i := 8) (v := ?_) rfl (by kernel_rfl) (by kernel_rfl) (by kernel_rfl) (fun _ _ _ h => h) (Or.inl ⟨by rfl, ?_⟩) (by assumption) ?_
            rotate_left
            · intro Wq hSw
              have k2 := strRow_at (id hSw).2.1 hlt HTX.out
              clear hSw
              go_simp
              all_goals (with_reducible rfl)
            try simp only [Act.put, List.getElem_toArray, List.getElem_cons_succ, List.getElem_cons_zero, List.setIfInBounds_toArray, List.set_cons_zero, List.set_cons_succ]
            refine wpAnyH_take (i := 9) (v := ?_) rfl (by kernel_rfl) (by kernel_rfl) (by kernel_rfl) (fun _ _ _ h => h) (Or.inl ⟨by rfl, ?_⟩) (by assumption) ?_
            rotate_left
            · intro Wq hSw
              clear hSw
              go_simp
              all_goals (with_reducible rfl)
            try simp only [Act.put, List.getElem_toArray, List.getElem_cons_succ, List.getElem_cons_zero, List.setIfInBounds_toArray, List.set_cons_zero, List.set_cons_succ]
            refine wpAnyH_take (i := 10) (v := ?_) rfl (by kernel_rfl) (by kernel_rfl) (by kernel_rfl) (fun _ _ _ h => h) (Or.inl ⟨by rfl, ?_⟩) (by assumption) ?_
            rotate_left
            · intro Wq hSw
              clear hSw
              go_simp
              all_goals (with_reducible rfl)
            try simp only [Act.put, List.getElem_toArray, List.getElem_cons_succ, List.getElem_cons_zero, List.setIfInBounds_toArray, List.set_cons_zero, List.set_cons_succ]
            refine wpAnyH_take (i := 11) (v := ?_) rfl (by kernel_rfl) (by kernel_rfl) (by kernel_rfl) (fun _ _ _ h => h) (Or.inl ⟨by rfl, ?_⟩) (by assumption) ?_
            rotate_left
            · intro Wq hSw
              clear hSw
              go_simp
              all_goals (with_reducible rfl)
            try simp only [Act.put, List.getElem_toArray, List.getElem_cons_succ, List.getElem_cons_zero, List.setIfInBounds_toArray, List.set_cons_zero, List.set_cons_succ]
            refine wpAnyH_take (i := 12) (v := ?_) rfl (by kernel_rfl) (by kernel_rfl) (by kernel_rfl) (fun _ _ _ h => h) (Or.inl ⟨by rfl, ?_⟩) (by assumption) ?_
            rotate_left
            · intro Wq hSw
              clear hSw
              go_simp
              all_goals (with_reducible rfl)
            try simp only [Act.put, List.getElem_toArray, List.getElem_cons_succ, List.getElem_cons_zero, List.setIfInBounds_toArray, List.set_cons_zero, List.set_cons_succ]
            refine wpAnyH_take (i := 13) (v := ?_) rfl (by kernel_rfl) (by kernel_rfl) (by kernel_rfl) (fun _ _ _ h => h) (Or.inl ⟨by rfl, ?_⟩) (by assumption) ?_
            rotate_left
            · intro Wq hSw
              clear hSw
              go_simp
              all_goals (with_reducible rfl)
            try simp only [Act.put, List.getElem_toArray, List.getElem_cons_succ, List.getElem_cons_zero, List.setIfInBounds_toArray, List.set_cons_zero, List.set_cons_succ]
            refine wpAnyH_take (i := 14) (v := ?_) rfl (by kernel_rfl) (by kernel_rfl) (by kernel_rfl) (fun _ _ _ h => h) (Or.inl ⟨by rfl, ?_⟩) (by assumption) ?_
            rotate_left
            · intro Wq hSw
              clear hSw
              go_simp
              all_goals (with_reducible rfl)
            try simp only [Act.put, List.getElem_toArray, List.getElem_cons_succ, List.getElem_cons_zero, List.setIfInBounds_toArray, List.set_cons_zero, List.set_cons_succ]
            refine wpAnyH_take (i := 15) (v := ?_) rfl (by kernel_rfl) (by kernel_rfl) (by kernel_rfl) (fun _ _ _ h => h) (Or.inl ⟨by rfl, ?_⟩) (by assumption) ?_
            rotate_left
            · intro Wq hSw
              obtain ⟨k0, k1⟩ := tokCells_at (id hSw).1 hltk HE.out
              clear hSw
              go_simp
              all_goals (with_reducible rfl)
            try simp only [Act.put, List.getElem_toArray, List.getElem_cons_succ, List.getElem_cons_zero, List.setIfInBounds_toArray, List.set_cons_zero, List.set_cons_succ]
            refine wpAnyH_take (i := 16) (v := ?_) rfl (by kernel_rfl) (by kernel_rfl) (by kernel_rfl) (fun _ _ _ h => h) (Or.inl ⟨by rfl, ?_⟩) (by assumption) ?_
            rotate_left
            · intro Wq hSw
              clear hSw
              go_simp
              all_goals (with_reducible rfl)
            try simp only [Act.put, List.getElem_toArray, List.getElem_cons_succ, List.getElem_cons_zero, List.setIfInBounds_toArray, List.set_cons_zero, List.set_cons_succ]
            refine wpAnyH_take (i := 17) (v := ?_) rfl (by kernel_rfl) (by kernel_rfl) (by kernel_rfl) (fun _ _ _ h => h) (Or.inl ⟨by rfl, ?_⟩) (by assumption) ?_
            rotate_left
            · intro Wq hSw
              clear hSw
              go_simp
              all_goals (with_reducible rfl)
            try simp only [Act.put, List.getElem_toArray, List.getElem_cons_succ, List.getElem_cons_zero, List.setIfInBounds_toArray, List.set_cons_zero, List.set_cons_succ]
            refine wpAnyH_take (i := 18) (v := ?_) rfl (by kernel_rfl) (by kernel_rfl) (by kernel_rfl) (fun _ _ _ h => h) (Or.inl ⟨by rfl, ?_⟩) (by assumption) ?_
            rotate_left
            · intro Wq hSw
              clear hSw
              go_simp
              all_goals (with_reducible rfl)
            try simp only [Act.put, List.getElem_toArray, List.getElem_cons_succ, List.getElem_cons_zero, List.setIfInBounds_toArray, List.set_cons_zero, List.set_cons_succ]
            refine wpAnyH_done (by kernel_rfl) ?_ _
            go_wp2_with fail
            go_meet
            case rel => exact ⟨rfl, id hHeld⟩
          case rest =>
          obtain ⟨rfl, hS⟩ := hcut
          clear HS0
          have HS0 := Lib.hid hS
          clear hS
          have k2 := strRow_at HS0.out.2.1 hlt HTX.out
          obtain ⟨m1, m2, m3, m4⟩ := wnum2 (i := i) (Nat.le_trans hi (Nat.le_trans hxb (by decide)))
          obtain ⟨m5, m6⟩ := wsum2 (a := a) (n := t.size) (Nat.le_trans (Nat.le_of_succ_le hts) (by decide))
          obtain ⟨m7, m8⟩ := wsum2 (a := a + t.size) (n := 1) (Nat.le_trans hts (by decide))
          rw [Int.natCast_add, show ((1 : Nat) : Int) = 1 from rfl] at m7 m8
          go_wp2_with fail
          clear m1 m2 m3 m4 m5 m6 m7 m8
          go_roundw
          case rel => exact ⟨i + 1, hlt, by rw [HN.out]; rfl, by rw [Int.natCast_add]; rfl, HS0.out⟩
          case measure => simp [intOf]; omega
        · obtain rfl : i = xs.length := by omega
          have b4 : ((xs.length : Int) < (tk.length : Int)) = False := eq_false (by have := HQ1.out; omega)
          rw [← HQ2.out]
          go_wp2_with fail
          (with_reducible refine (K.out _).mono ?_); rintro e w2 ⟨rfl, hb2⟩
          have HG := Lib.hid (bl_trans (bl_trans HBW.out HS0.out.2.2) hb2)
          clear hb2
          go_wp2
          go_ret
          exact ⟨rfl, HG.out⟩
end Go.Proofs.Ytdoilgddlhadhaa
