/-
  The walk of the law TokenComments.
-/
import Derived.Test.YtdoilgddlhadhaaComMath
import Derived.Test.YtdoilgddlhadhaaWhole0
import Derived.Maps.AppendAt
import Derived.Laws.AppendOwnNone
namespace Go.Proofs.Ytdoilgddlhadhaa
open Go.RowKit

def bv (l : List Int) : List Value := l.map fun d => .int .u8 d
theorem bv_len (l : List Int) : (bv l).length = l.length * 1 := by simp [bv]
theorem bv_one (l : List Int) : ∀ u ∈ bv l, u.oneCell' = true := by
  intro u hu
  simp [bv] at hu
  obtain ⟨d, -, rfl⟩ := hu
  rfl
theorem info_byte : (Try.prog.info? 5).map (fun i => (i.zero, i.size, i.bytes)) = some (some (.int .u8 0), 1, 1) := by kernel_rfl
/-- a row of bytes, the call's own -/
structure Ob (W0 : World) (v : Value) (L : List Int) (W : World) : Prop where
  own : W.ownsRow W0.heap.size 5 1 v L.length (bv L)
  hb : Below W0.heap.size W0 W
  sz : W0.heap.size ≤ W.heap.size
theorem Ob.alloc {W0 W : World} {v : Value} {L : List Int} (h : Ob W0 v L W) (o : Obj) : Ob W0 v L (W.alloc o) :=
  ⟨h.own.alloc o, h.hb.alloc h.sz o, by simp; have := h.sz; omega⟩
theorem Ob.more {W0 W W' : World} {v v' : Value} {L M : List Int} {n : Nat} (h : Ob W0 v L W) (hn : n = (L ++ M).length) (ho : W'.ownsRow W0.heap.size 5 1 v' n (bv L ++ bv M)) (hg : W.grownBy W' v.ownBlock) : Ob W0 v' (L ++ M) W' :=
  ⟨by subst hn; unfold bv at *; rw [List.map_append]; exact ho, h.hb.grown hg h.sz (fun k e => (h.own.lt k e).1), Nat.le_trans h.sz hg.size⟩
/-- a part of a row of bytes that came in -/
theorem part_cells {W : World} {g o : Nat} {s : ByteArray} (h : BytesIn W (some ⟨g, o, none⟩) s) (a b : Nat) : ∀ j u, (bv (((nums s).take b).drop a))[j]? = some u → W.cell? ((⟨g, o + a, none⟩ : Addr).add j) = some u := by
  intro j u hj
  have e : (⟨g, o + a, none⟩ : Addr).add j = ⟨g, o + a + j, none⟩ := by unfold Addr.add; split <;> simp_all
  rw [e]
  unfold bv at hj
  rw [List.getElem?_map, List.getElem?_drop] at hj
  cases hx : ((nums s).take b)[a + j]? with
  | none => rw [hx] at hj; simp at hj
  | some d =>
    rw [hx] at hj
    simp at hj
    subst hj
    have hlt : a + j < (nums s).length := by
      have := (List.getElem?_eq_some_iff.1 hx).1
      simp at this
      omega
    rw [nums_length] at hlt
    have h1 := bytes_at h hlt rfl
    rw [List.getElem?_take] at hx
    split at hx
    · have h2 := nums_get s (a + j) hlt
      rw [List.getD_eq_getElem?_getD, hx] at h2
      simp at h2
      rw [← Nat.add_assoc] at h1
      rw [h1, h2]
    · simp at hx
theorem cells_2 (w : World) (x y : Value) (t : TypeId) : ∀ j u, [x, y][j]? = some u → (w.alloc (.cells #[x, y] t)).cell? ((⟨w.heap.size, 0, none⟩ : Addr).add j) = some u := by
  intro j u hj
  match j, hj with
  | 0, hj => simp at hj; subst hj; simp [Addr.add]
  | 1, hj => simp at hj; subst hj; simp [Addr.add]
theorem cells_4 (w : World) (x y z v : Value) (t : TypeId) : ∀ j u, [x, y, z, v][j]? = some u → (w.alloc (.cells #[x, y, z, v] t)).cell? ((⟨w.heap.size, 0, none⟩ : Addr).add j) = some u := by
  intro j u hj
  match j, hj with
  | 0, hj => simp at hj; subst hj; simp [Addr.add]
  | 1, hj => simp at hj; subst hj; simp [Addr.add]
  | 2, hj => simp at hj; subst hj; simp [Addr.add]
  | 3, hj => simp at hj; subst hj; simp [Addr.add]
theorem take_one {t : ByteArray} {i : Nat} (hi : i < t.size) : (nums t).take (i + 1) = (nums t).take i ++ [((t[i]'hi).toNat : Int)] := by
  have hl : i < (nums t).length := by rw [nums_length]; exact hi
  have e := nums_get t i hi
  rw [List.getD_eq_getElem?_getD, List.getElem?_eq_getElem hl] at e
  simp at e
  rw [List.take_succ_eq_append_getElem hl, e]
theorem ob_bytes {W0 W : World} {v : Value} {L : List Int} (h : Ob W0 v L W) (h0 : 0 < L.length) (hb : ∀ d ∈ L, 0 ≤ d ∧ d < 256) : ∃ g cap, v = .slice (some ⟨g, 0, none⟩) L.length cap ∧ BytesIn W (some ⟨g, 0, none⟩) (strOfNums L) := by
  have ho := h.own
  rcases ho.2 with ⟨rfl, hn⟩ | ⟨g, cap, cur, rfl, -⟩
  · omega
  · refine ⟨g, cap, rfl, fun i hi => ⟨g, 0, rfl, ?_⟩⟩
    have hc := ho.cells (g := g) rfl
    have hs : (strOfNums L).size = L.length := by rw [← nums_length, nums_str L hb]
    have hi' : i < L.length := by omega
    have e1 : (bv L)[i]? = some (.int .u8 L[i]) := by unfold bv; simp [hi']
    have h2 := hc i _ e1
    have add : (⟨g, 0, none⟩ : Addr).add i = ⟨g, i, none⟩ := by unfold Addr.add; split <;> simp_all
    rw [add] at h2
    rw [Nat.zero_add, h2]
    have h3 := nums_get (strOfNums L) i hi
    rw [nums_str L hb, List.getD_eq_getElem?_getD, List.getElem?_eq_getElem hi'] at h3
    simp at h3
    rw [h3]
theorem words_le (s : ByteArray) {i : Nat} (h : i < (wordsOf s).length) : (wordsOf s)[i].1 ≤ s.size := by
  obtain ⟨a, b, e, h1, -, -⟩ := words_at s h
  rw [e, ← nums_length]
  exact Nat.le_trans (Nat.le_of_lt h1.lt) h1.le
theorem wsum2 {a n : Nat} (h : a + n ≤ 100000) : wrap64 ((a : Int) + (n : Int)) = (a : Int) + (n : Int) ∧ IntKind.i64.wrap ((a : Int) + (n : Int)) = (a : Int) + (n : Int) :=
  ⟨by unfold wrap64; omega, IntWalk.i64_in _ (by omega)⟩

set_option maxHeartbeats 16000000 in
set_option maxRecDepth 100000 in
theorem com_l (adb adc : Option Addr) (cpb cpc : Nat) (s c : ByteArray) (fr : Int) (hcap : s.size ≤ cpb) (hzb : adb = none → cpb = 0) (w : World) (hB : BytesIn w adb s) (hC : BytesIn w adc c) :
    Calls Try.prog 8 #[.slice adb s.size cpb, .int .i64 fr, .slice adc c.size cpc] w (Gives (.bool true) w) := by
  have K := Lib.hid (fun W => known_c W)
  have HB := Lib.hid hB
  have HC := Lib.hid hC
  have HT : Hid (TextOf w (.slice adb s.size cpb) s) := text_of hB
  clear hB hC
  go_enter Try.func8, Try.ntmps8
  by_cases hbig : 5000 < s.size ∨ 5000 < c.size
  · rcases Nat.lt_or_ge 5000 s.size with h1 | h1
    · have b1 : ((5000 : Int) < (s.size : Int)) = True := by simp; omega
      go_wp2_with fail
      (with_reducible refine (K.out _).mono ?_); rintro e w1 ⟨rfl, hb1⟩
      go_wp2
      go_ret
      exact ⟨rfl, by repeat (first | (with_reducible exact Below.refl _ _) | (with_reducible refine bl_alloc ?_ _) | (with_reducible refine Below.drew ?_) | (with_reducible refine below_drewN' ?_ _) | (with_reducible refine bl_trans ?_ hb1) | ((with_reducible refine bl_set ?_ ?_ _); (rotate_left; (dsimp only; omega))))⟩
    · have b1 : ((5000 : Int) < (s.size : Int)) = False := by simp; omega
      have b2 : ((5000 : Int) < (c.size : Int)) = True := by simp; omega
      go_wp2_with fail
      (with_reducible refine (K.out _).mono ?_); rintro e w1 ⟨rfl, hb1⟩
      go_wp2
      go_ret
      exact ⟨rfl, by repeat (first | (with_reducible exact Below.refl _ _) | (with_reducible refine bl_alloc ?_ _) | (with_reducible refine Below.drew ?_) | (with_reducible refine below_drewN' ?_ _) | (with_reducible refine bl_trans ?_ hb1) | ((with_reducible refine bl_set ?_ ?_ _); (rotate_left; (dsimp only; omega))))⟩
  obtain ⟨h1, h2⟩ : s.size ≤ 5000 ∧ c.size ≤ 5000 := by omega
  have b1 : ((5000 : Int) < (s.size : Int)) = False := by simp; omega
  have b2 : ((5000 : Int) < (c.size : Int)) = False := by simp; omega
  clear hbig
  have HL := words_len s
  have CA := Lib.hid (all_w adb s.size cpb s rfl (by omega) w HT.out)
  have HWL := Lib.hid (fun (sx : ByteArray) => words_laid s sx)
  have HST := Lib.hid (fun (k : Nat) => words_start s k)
  have HWB := Lib.hid (fun (i : Nat) (h : i < (wordsOf s).length) => words_le s h)
  generalize hts : wordsOf s = ts at *
  have HTS := Lib.hid hts
  clear hts HT
  go_upto_region 3 with (fail)
  go_cut [7, 8] (fun lv ev W => ∃ a1 c1, lv = .slice a1 ts.length c1 ∧ ev = .int .i64 0 ∧ TokCells W a1 ts ∧ Below w.heap.size w W)
  case first =>
    go_wp2_with fail
    (with_reducible refine CA.out.mono ?_); rintro e w1 ⟨a1, c1, rfl, hT1, hb1⟩
    go_wp2_with fail
    go_meet
    case rel => exact ⟨a1, c1, rfl, rfl, hT1, hb1⟩
  case rest =>
  obtain ⟨a1, c1, rfl, rfl, hT1, hb1⟩ := hcut
  obtain ⟨W0, hW0⟩ : ∃ W0, W0 = wc := ⟨_, rfl⟩
  subst hW0
  have HT1 := Lib.hid hT1
  have HB1 := Lib.hid hb1
  replace HB := Lib.hid (HB.out.below hb1)
  replace HC := Lib.hid (HC.out.below hb1)
  clear hT1 hb1 CA b1 b2
  go_upto_region 6 with (fail)
  go_cut [9] (fun kv W => ∃ k : Nat, kv = .int .i64 k ∧ k ≤ ts.length ∧ W0 = W)
  case first =>
    go_wp2_with fail
    go_meet
    case rel =>
      have h0 : 0 ≤ IntKind.u64.wrap fr := by rw [IntKind.wrap_u64]; exact Int.emod_nonneg _ (by omega)
      generalize IntKind.u64.wrap fr = m at *
      rw [Int.tmod_eq_emod_of_nonneg h0]
      have h3 := Int.emod_nonneg m (show (ts.length : Int) + 1 ≠ 0 by omega)
      have h4 := Int.emod_lt_of_pos m (show 0 < (ts.length : Int) + 1 by omega)
      generalize m % ((ts.length : Int) + 1) = r at *
      refine ⟨r.toNat, ?_, by omega, rfl⟩
      rw [show ((r.toNat : Nat) : Int) = r by omega, show wrap64 r = r by unfold wrap64; omega]
  case rest =>
  obtain ⟨k, rfl, hk, rfl⟩ := hcut
  obtain ⟨p, hp, hps, hpk⟩ := HST.out k
  have HP := Lib.hid hp
  clear hp HST
  go_upto_region 8 with (fail)
  go_upto_if 46 with (fail)
  go_cut [10] (fun pv W => pv = .int .i64 (p : Int) ∧ W0 = W)
  case first =>
    rcases hpk with ⟨h, hpk⟩ | ⟨h, hpk⟩
    · have b3 : ((k : Int) < (ts.length : Int)) = True := by simp; omega
      obtain ⟨g1, o1, rfl, k0, k1⟩ := HT1.out k h
      rw [hpk] at k0
      go_wp2_with fail
      go_meet
      case rel => exact ⟨rfl, rfl⟩
    · have b3 : ((k : Int) < (ts.length : Int)) = False := by simp; omega
      go_wp2_with fail
      go_meet
      case rel => exact ⟨by rw [hpk], rfl⟩
  case rest =>
  obtain ⟨rfl, rfl⟩ := hcut
  have b3 : ((s.size : Int) < (p : Int)) = False := eq_false (by omega)
  clear hpk
  obtain ⟨e0, hi0, hz0, hz1, hz2⟩ := info_parts info_byte
  go_upto_region 13 with (fail)
  go_cut [11] (fun xv W => Ob W0 xv ((nums s).take p) W)
  case first =>
    have OB0 : Ob W0 (.slice none 0 0) [] W0 := ⟨World.ownsRow_nil _ _ _ _, Below.refl _ _, Nat.le_refl _⟩
    rcases Nat.eq_zero_or_pos s.size with h0 | h0
    · have hp0 : p = 0 := by omega
      subst hp0
      have hT0 : (nums s).take 0 = [] := List.take_zero
      rw [h0] at *
      cases adb with
      | none =>
        obtain rfl := hzb rfl
        go_wp2_with (first | (at_builtin; refine wpList_append_own_none rfl _ _ 22 rfl W0.heap.size 5 e0 1 Try.underlying22 hi0 (.slice none 0 0) 0 [] rfl (World.ownsRow_nil _ _ _ _) rfl ?_) | go_in)
        go_wp2_with fail
        go_meet
        case rel => exact OB0
      | some ad =>
        go_wp2_with (first | (at_builtin; refine wpList_append_own_at _ rfl _ _ 22 rfl W0.heap.size 5 e0 (.int .u8 0) 1 1 Try.underlying22 hi0 hz0 hz1 hz2 rfl (by decide) (.slice none 0 0) 0 [] rfl (World.ownsRow_nil _ _ _ _) ad 0 cpb [] rfl rfl (fun j u h => by simp at h) (fun u h => by simp at h) ?c3 ?c4 ?c5 ?_) | go_in)
        intro v w1 hown hgrow hnil _
        obtain rfl := hnil
        have hbl : Below W0.heap.size W0 w1 := (Below.refl _ _).grown hgrow (Nat.le_refl _) (fun g hg => by cases hg)
        clear hown hgrow
        go_wp2_with fail
        go_meet
        case rel => exact ⟨World.ownsRow_nil _ _ _ _, hbl, hbl.size⟩
    · obtain ⟨g, o, rfl, -⟩ := HB.out 0 h0
      have q1 : ((p : Int) ≤ (cpb : Int)) = True := eq_true (by omega)
      have hln : ((nums s).take p).length = p := by rw [List.length_take, nums_length]; omega
      have hcl := part_cells HB.out 0 p
      rw [List.drop_zero] at hcl
      go_wp2_with (first | (at_builtin; refine wpList_append_own_at _ rfl _ _ 22 rfl W0.heap.size 5 e0 (.int .u8 0) 1 1 Try.underlying22 hi0 hz0 hz1 hz2 rfl (by decide) _ _ _ rfl OB0.own ⟨g, o + 0, none⟩ p cpb (bv ((nums s).take p)) rfl (by rw [bv_len, hln]) hcl (bv_one _) ?ca ?cb ?cc ?_) | go_in)
      case ca => simp only [List.length_nil]; unfold maxLen; omega
      case cb => simp only [List.length_nil]; omega
      case cc => exact Nat.le_refl _
      intro v' w1 hown hgrow _ _
      have HO := Lib.hid (OB0.more (n := 0 + p) (M := (nums s).take p) (by simp [hln]) (by simpa using hown) hgrow)
      clear hown hgrow
      go_wp2_with fail
      go_meet
      case rel => exact HO.out
  case rest =>
  have HO := Lib.hid hcut
  have hln : ((nums s).take p).length = p := by rw [List.length_take, nums_length]; omega
  clear hcut
  go_upto_region 14 with (fail)
  go_cut [11] (fun xv W => Ob W0 xv ((nums s).take p ++ [10, 35]) W)
  case first =>
    go_wp2_with (first | (at_builtin; refine wpList_append_own_at _ rfl _ _ 22 rfl W0.heap.size 5 e0 (.int .u8 0) 1 1 Try.underlying22 hi0 hz0 hz1 hz2 rfl (by decide) _ _ _ rfl (HO.out.alloc _).own ⟨_, 0, none⟩ 2 2 (bv [10, 35]) rfl rfl (cells_2 _ _ _ _) (bv_one _) ?ca ?cb ?cc ?_) | go_in)
    case ca => unfold maxLen; omega
    case cb => omega
    case cc => exact (HO.out.alloc _).sz
    intro v' w1 hown hgrow _ _
    have HO2 := Lib.hid ((HO.out.alloc _).more (n := p + 2) (M := [10, 35]) (by simp [hln]) hown hgrow)
    clear hown hgrow
    go_wp2_with fail
    go_meet
    case rel => exact HO2.out
  case rest =>
  clear HO
  have HO := Lib.hid hcut
  have HLN := Lib.hid hln
  clear hcut hln
  obtain ⟨L0, hL0⟩ : ∃ L, (nums s).take p ++ [10, 35] = L := ⟨_, rfl⟩
  have hL0l : L0.length = p + 2 := by rw [← hL0, List.length_append, HLN.out]; rfl
  rw [hL0] at HO
  have HL0 := Lib.hid hL0
  clear hL0
  go_wp2_with fail
  go_loopw [11, 12] (fun xv iv W => ∃ i : Nat, i ≤ c.size ∧ iv = .int .i64 i ∧ Ob W0 xv (L0 ++ ((nums c).take i).filter (· != 10)) W) (fun _ iv _ => c.size - (intOf iv).toNat)
  case atStart => exact ⟨0, by omega, rfl, by rw [List.take_zero, List.filter_nil, List.append_nil]; exact HO.out⟩
  case round =>
    obtain ⟨i, hi, rfl, hO⟩ := hrel
    clear HO
    have HO := Lib.hid hO
    clear hO
    by_cases hlt : i < c.size
    · have b4 : ((i : Int) < (c.size : Int)) = True := by simp; omega
      obtain ⟨g, o, rfl, -⟩ := HC.out i hlt
      obtain ⟨d, hd⟩ : ∃ d : Nat, (c[i]'hlt).toNat = d := ⟨_, rfl⟩
      have kc := bytes_at (HC.out.below HO.out.hb) hlt hd
      have HTK := Lib.hid (show (nums c).take (i + 1) = (nums c).take i ++ [(d : Int)] by rw [take_one hlt, hd])
      have hfl : (((nums c).take i).filter (· != 10)).length ≤ 5000 := Nat.le_trans (List.length_filter_le _ _) (by rw [List.length_take, nums_length]; omega)
      clear hd
      obtain ⟨F, hF⟩ : ∃ F, ((nums c).take i).filter (· != 10) = F := ⟨_, rfl⟩
      rw [hF] at HO hfl
      have HF := Lib.hid hF
      have hll : (L0 ++ F).length ≤ 12000 := by rw [List.length_append]; omega
      clear hF
      obtain ⟨L1, hL1⟩ : ∃ L, L0 ++ F = L := ⟨_, rfl⟩
      rw [hL1] at HO hll
      have HL1 := Lib.hid hL1
      clear hL1
      by_cases hd : d = 10
      · have e1 : (((d : Int)) != 10) = false := by rw [hd]; rfl
        obtain ⟨m1, m2, m3, m4⟩ := wnum (i := i) (by omega)
        go_wp2_with fail
        clear m1 m2 m3 m4
        go_roundw
        case rel => exact ⟨i + 1, hlt, by rw [Int.natCast_add]; rfl, by rw [HTK.out, List.filter_append, HF.out]; simp only [List.filter_cons, e1, List.filter_nil, Bool.false_eq_true, if_false, List.append_nil]; rw [HL1.out]; exact HO.out⟩
        case measure => simp [intOf]; omega
      · have e1 : (((d : Int)) != 10) = true := by simp; omega
        obtain ⟨m1, m2, m3, m4⟩ := wnum (i := i) (by omega)
        go_wp2_with (first | (at_builtin; refine wpList_append_own_at _ rfl _ _ 22 rfl W0.heap.size 5 e0 (.int .u8 0) 1 1 Try.underlying22 hi0 hz0 hz1 hz2 rfl (by decide) _ _ _ rfl (HO.out.alloc _).own ⟨_, 0, none⟩ 1 1 (bv [(d : Int)]) rfl rfl (cell_one_new _ _ _) (bv_one _) ?ca ?cb ?cc ?_) | go_in)
        case ca => unfold maxLen; omega
        case cb => omega
        case cc => exact (HO.out.alloc _).sz
        intro v' w1 hown hgrow _ _
        have HO2 := Lib.hid ((HO.out.alloc _).more (n := L1.length + 1) (M := [(d : Int)]) (by simp) hown hgrow)
        clear hown hgrow
        go_wp2_with fail
        clear m1 m2 m3 m4
        go_roundw
        case rel => exact ⟨i + 1, hlt, by rw [Int.natCast_add]; rfl, by rw [HTK.out, List.filter_append, HF.out]; simp only [List.filter_cons, e1, List.filter_nil, if_true]; rw [← List.append_assoc, HL1.out]; exact HO2.out⟩
        case measure => simp [intOf]; omega
    · obtain rfl : i = c.size := by omega
      have b4 : ((c.size : Int) < (c.size : Int)) = False := by simp
      have htk : (nums c).take c.size = nums c := List.take_of_length_le (by rw [nums_length]; omega)
      rw [htk] at HO
      have hcf : ∀ x ∈ (nums c).filter (· != 10), x ≠ 10 := fun x hx => by simpa using (List.mem_filter.1 hx).2
      have hfl : ((nums c).filter (· != 10)).length ≤ 5000 := Nat.le_trans (List.length_filter_le _ _) (by rw [nums_length]; omega)
      have HCF := Lib.hid (fun d (hd : d ∈ (nums c).filter (· != 10)) => nums_range c d (List.mem_filter.1 hd).1)
      generalize (nums c).filter (· != 10) = cf at *
      clear htk
      go_upto_region 20 with (fail)
      go_cut [11] (fun xv W => Ob W0 xv (L0 ++ cf ++ [10, 32, 9, 13]) W)
      case first =>
        obtain ⟨L1, hL1⟩ : ∃ L, L0 ++ cf = L := ⟨_, rfl⟩
        have hll : L1.length ≤ 12000 := by rw [← hL1, List.length_append]; omega
        rw [hL1] at HO
        have HL1 := Lib.hid hL1
        clear hL1
        go_wp2_with (first | (at_builtin; refine wpList_append_own_at _ rfl _ _ 22 rfl W0.heap.size 5 e0 (.int .u8 0) 1 1 Try.underlying22 hi0 hz0 hz1 hz2 rfl (by decide) _ _ _ rfl (HO.out.alloc _).own ⟨_, 0, none⟩ 4 4 (bv [10, 32, 9, 13]) rfl rfl (cells_4 _ _ _ _ _ _) (bv_one _) ?ca ?cb ?cc ?_) | go_in)
        case ca => unfold maxLen; omega
        case cb => omega
        case cc => exact (HO.out.alloc _).sz
        intro v' w1 hown hgrow _ _
        have HO2 := Lib.hid ((HO.out.alloc _).more (n := L1.length + 4) (M := [10, 32, 9, 13]) (by simp) hown hgrow)
        clear hown hgrow
        go_wp2_with fail
        go_meet
        case rel => rw [HL1.out]; exact HO2.out
      case rest =>
      clear HO
      have HO := Lib.hid hcut
      clear hcut b4 HC
      obtain ⟨L4, hL4⟩ : ∃ L, L0 ++ cf ++ [10, 32, 9, 13] = L := ⟨_, rfl⟩
      have hl4 : L4.length = p + cf.length + 6 := by rw [← hL4]; simp only [List.length_append, hL0l]; simp; omega
      rw [hL4] at HO
      have HL4 := Lib.hid hL4
      clear hL4
      go_upto_region 21 with (fail)
      go_cut [11] (fun xv W => Ob W0 xv (L4 ++ (nums s).drop p) W)
      case first =>
        rcases Nat.lt_or_ge p s.size with h0 | h0
        · obtain ⟨g, o, rfl, -⟩ := HB.out 0 (by omega)
          have q1 : ((p : Int) ≤ (s.size : Int)) = True := eq_true (by omega)
          have q2 : (s.size ≤ cpb) = True := eq_true hcap
          have q3 : (cpb = p) = False := eq_false (by omega)
          have q4 : (p ≤ s.size) = True := eq_true hps
          have hln : ((nums s).drop p).length = s.size - p := by rw [List.length_drop, nums_length]
          have hcl := part_cells (HB.out.below HO.out.hb) p s.size
          rw [List.take_of_length_le (by rw [nums_length]; omega)] at hcl
          go_wp2_with (first | (at_builtin; refine wpList_append_own_at _ rfl _ _ 22 rfl W0.heap.size 5 e0 (.int .u8 0) 1 1 Try.underlying22 hi0 hz0 hz1 hz2 rfl (by decide) _ _ _ rfl HO.out.own ⟨g, o + p, none⟩ (s.size - p) (cpb - p) (bv ((nums s).drop p)) rfl (by rw [bv_len, hln]) hcl (bv_one _) ?ca ?cb ?cc ?_) | go_in)
          case ca => unfold maxLen; omega
          case cb => omega
          case cc => exact HO.out.sz
          intro v' w1 hown hgrow _ _
          have HO2 := Lib.hid (HO.out.more (n := p + cf.length + 6 + (s.size - p)) (M := (nums s).drop p) (by rw [List.length_append, hln, hl4]) hown hgrow)
          clear hown hgrow
          go_wp2_with fail
          go_meet
          case rel => exact HO2.out
        · have hdr : (nums s).drop p = [] := List.drop_eq_nil_of_le (by rw [nums_length]; exact h0)
          have HDR := Lib.hid hdr
          have hpe : p = s.size := by omega
          clear hdr
          cases adb with
          | none =>
            have h00 : s.size = 0 := by
              rcases Nat.eq_zero_or_pos s.size with h | h
              · exact h
              · obtain ⟨g, o, e, -⟩ := HB.out 0 h
                cases e
            have hp0 : p = 0 := by omega
            obtain rfl := hzb rfl
            have hzn : nums s = [] := List.eq_nil_of_length_eq_zero (by rw [nums_length]; exact h00)
            have HZN := Lib.hid hzn
            clear hzn
            rw [h00, hp0] at *
            go_wp2_with (first | (at_builtin; refine wpList_append_own_none rfl _ _ 22 rfl W0.heap.size 5 e0 1 Try.underlying22 hi0 _ _ _ rfl HO.out.own rfl ?_) | go_in)
            go_wp2_with fail
            go_meet
            case rel => rw [HZN.out, List.drop_nil, List.append_nil]; exact HO.out
          | some ad =>
            have q1 : ((p : Int) ≤ (s.size : Int)) = True := eq_true (by omega)
            have q2 : (s.size ≤ cpb) = True := eq_true hcap
            have q4 : (p ≤ s.size) = True := eq_true hps
            have q5 : s.size - p = 0 := by omega
            clear hpe h0
            by_cases hcp : cpb = p
            · have q3 : (cpb = p) = True := eq_true hcp
              clear hcp
              go_wp2_with (first | (at_builtin; refine wpList_append_own_at _ rfl _ _ 22 rfl W0.heap.size 5 e0 (.int .u8 0) 1 1 Try.underlying22 hi0 hz0 hz1 hz2 rfl (by decide) _ _ _ rfl HO.out.own _ 0 _ [] rfl rfl (fun j u h => by simp at h) (fun u h => by simp at h) ?ca ?cb ?cc ?_) | go_in)
              case ca => unfold maxLen; omega
              case cb => omega
              case cc => exact HO.out.sz
              intro v' w1 hown hgrow _ _
              have HO2 := Lib.hid (HO.out.more (n := p + cf.length + 6) (M := []) (by rw [List.append_nil, hl4]) (by rw [show bv [] = [] from rfl, List.append_nil]; exact hown) hgrow)
              clear hown hgrow
              go_wp2_with fail
              go_meet
              case rel => rw [HDR.out]; exact HO2.out
            · have q3 : (cpb = p) = False := eq_false hcp
              clear hcp
              go_wp2_with (first | (at_builtin; refine wpList_append_own_at _ rfl _ _ 22 rfl W0.heap.size 5 e0 (.int .u8 0) 1 1 Try.underlying22 hi0 hz0 hz1 hz2 rfl (by decide) _ _ _ rfl HO.out.own _ 0 _ [] rfl rfl (fun j u h => by simp at h) (fun u h => by simp at h) ?ca ?cb ?cc ?_) | go_in)
              case ca => unfold maxLen; omega
              case cb => omega
              case cc => exact HO.out.sz
              intro v' w1 hown hgrow _ _
              have HO2 := Lib.hid (HO.out.more (n := p + cf.length + 6) (M := []) (by rw [List.append_nil, hl4]) (by rw [show bv [] = [] from rfl, List.append_nil]; exact hown) hgrow)
              clear hown hgrow
              go_wp2_with fail
              go_meet
              case rel => rw [HDR.out]; exact HO2.out
      case rest =>
      clear HO
      have HO := Lib.hid hcut
      clear hcut
      obtain ⟨L5, hL5⟩ : ∃ L, L4 ++ (nums s).drop p = L := ⟨_, rfl⟩
      rw [hL5] at HO
      have hl5 : L5.length = s.size + cf.length + 6 := by rw [← hL5, List.length_append, List.length_drop, nums_length]; omega
      have hbd : ∀ d ∈ L5, 0 ≤ d ∧ d < 256 := by
        intro d hd
        rw [← hL5, ← HL4.out, ← HL0.out] at hd
        simp only [List.mem_append] at hd
        rcases hd with (((hd | hd) | hd) | hd) | hd
        · exact nums_range s d (List.mem_of_mem_take hd)
        · simp at hd; omega
        · exact HCF.out d hd
        · simp at hd; omega
        · exact nums_range s d (List.mem_of_mem_drop hd)
      have hxs := nums_str L5 hbd
      have hkt : k ≤ (toks (nums s)).length := by
        have e : (wordsOf s).length = (toks (nums s)).length := by simp [wordsOf]
        rw [← e, HTS.out]; exact hk
      obtain ⟨-, hwl, hwa⟩ := HWL.out (strOfNums L5) cf k hkt hcf p HP.out (by rw [hxs, ← hL5, ← HL4.out, ← HL0.out]; simp [laid])
      have hsz : (strOfNums L5).size = s.size + cf.length + 6 := by rw [← nums_length, hxs, hl5]
      obtain ⟨gx, capx, hxv, hBX⟩ := ob_bytes HO.out (by omega) hbd
      subst hxv
      rw [hl5]
      obtain ⟨d, hd⟩ : ∃ d, cf.length + 6 = d := ⟨_, rfl⟩
      have hdd : s.size + cf.length + 6 = s.size + d := by omega
      rw [hdd] at hsz ⊢
      rw [hd] at hwa
      have hw0 : Below w.heap.size w wc := bl_trans HB1.out (HO.out.hb)
      have CA2 := Lib.hid (all_w (some ⟨gx, 0, none⟩) (s.size + d) capx (strOfNums L5) hsz (by omega) wc (by rw [← hsz]; exact text_of hBX))
      generalize wordsOf (strOfNums L5) = tx at *
      rw [hwl] at CA2
      have HT2 := Lib.hid (HT1.out.below HO.out.hb)
      have HW0 := Lib.hid hw0
      have HWA := Lib.hid hwa
      have hdb : d ≤ 6000 := by omega
      have HHK := Lib.hid hk
      clear hw0 hwa hkt hBX hbd hxs HO HB HWL HP hcf HCF HT1 HL0 HL4 hL5 hl5 hd hdd hsz hfl e0 hi0 hz0 hz1 hz2 hl4 hL0l HLN
      go_upto_region 22 with (fail)
      go_cut [13, 14] (fun lv ev W => ∃ a2 c2, lv = .slice a2 ts.length c2 ∧ ev = .int .i64 0 ∧ (fun W => TokCells W a1 ts ∧ TokCells W a2 tx ∧ Below w.heap.size w W) W)
      case first =>
        go_wp2_with fail
        (with_reducible refine CA2.out.mono ?_); rintro e w2 ⟨a2, c2, rfl, hT2, hb2⟩
        have HX : Hid ((fun W => TokCells W a1 ts ∧ TokCells W a2 tx ∧ Below w.heap.size w W) w2) := ⟨HT2.out.below hb2, hT2, bl_trans HW0.out hb2⟩
        clear hT2 hb2
        go_wp2_with fail
        go_meet
        case rel => exact ⟨a2, c2, rfl, rfl, HX.out⟩
      case rest =>
      obtain ⟨a2, c2, rfl, rfl, hS⟩ := hcut
      have HS0 := Lib.hid hS
      clear hS CA2 HT2 HW0
      go_wp2_with fail
      go_loopw [15] (fun iv W => ∃ i : Nat, i ≤ ts.length ∧ iv = .int .i64 i ∧ (fun W => TokCells W a1 ts ∧ TokCells W a2 tx ∧ Below w.heap.size w W) W) (fun iv _ => ts.length - (intOf iv).toNat)
      case atStart => exact ⟨0, by omega, rfl, HS0.out⟩
      case round =>
        obtain ⟨i, hi, rfl, hS⟩ := hrel
        clear HS0
        have HS0 : Hid ((fun W => TokCells W a1 ts ∧ TokCells W a2 tx ∧ Below w.heap.size w W) _) := hS
        clear hS
        by_cases hlt : i < ts.length
        · have b4 : ((i : Int) < (ts.length : Int)) = True := by simp; omega
          have hltx : i < tx.length := by omega
          obtain ⟨hwt, hwo⟩ := HWA.out i hlt hltx
          obtain ⟨a, t, he⟩ : ∃ a t, ts[i] = (a, t) := ⟨ts[i].1, ts[i].2, rfl⟩
          obtain ⟨e, hee⟩ : ∃ e, (if k ≤ i then d else 0) = e := ⟨_, rfl⟩
          have hex : tx[i] = (a + e, t) := Prod.ext (by rw [hwo, he, hee]) (by rw [hwt, he])
          have hab : a ≤ s.size := by have := HWB.out i hlt; rw [he] at this; exact this
          have heb : e ≤ 6000 := by rw [← hee]; split <;> omega
          have HE := Lib.hid he
          have HEX := Lib.hid hex
          clear he hex hwt hwo
          obtain ⟨g1, o1, rfl, -, -⟩ := HS0.out.1 i hlt
          obtain ⟨g2, o2, rfl, -, -⟩ := HS0.out.2.1 i hltx
          go_upto_region 29 with (fail)
          go_upto_if 116 with (fail)
          go_cut [16] (fun mv W => mv = .int .i64 (e : Int) ∧ (fun W => TokCells W (some ⟨g1, o1, none⟩) ts ∧ TokCells W (some ⟨g2, o2, none⟩) tx ∧ Below w.heap.size w W) W)
          case first =>
            by_cases hki : k ≤ i
            · have b5 : ((k : Int) ≤ (i : Int)) = True := eq_true (by omega)
              have b6 : (k ≤ i) = True := eq_true hki
              rw [if_pos hki] at hee
              subst hee
              go_wp2_with fail
              go_meet
              case rel => exact ⟨by (first | rfl | (congr 1; omega) | (congr 1; unfold wrap64; omega)), HS0.out⟩
            · have b5 : ((k : Int) ≤ (i : Int)) = False := eq_false (by omega)
              have b6 : (k ≤ i) = False := eq_false hki
              rw [if_neg hki] at hee
              subst hee
              go_wp2_with fail
              go_meet
              case rel => exact ⟨rfl, HS0.out⟩
          case rest =>
          obtain ⟨rfl, hS⟩ := hcut
          clear HS0 hee
          have HS0 := Lib.hid hS
          clear hS
          go_upto_region 31 with (fail)
          go_cut [147] (fun tv W => tv = .bool false ∧ (fun W => TokCells W (some ⟨g1, o1, none⟩) ts ∧ TokCells W (some ⟨g2, o2, none⟩) tx ∧ Below w.heap.size w W) W)
          case first =>
            obtain ⟨w1, w2⟩ := wsum2 (a := a) (n := e) (by omega)
            clear HWB HWA HTS K
            refine wp_region_held_drew (S := fun W => TokCells W (some ⟨g1, o1, none⟩) ts ∧ TokCells W (some ⟨g2, o2, none⟩) tx ∧ Below w.heap.size w W) (by kernel_rfl) ?_ (fun q1 => ?_)
            · exact ⟨HS0.out.1.below (bel_drew _), HS0.out.2.1.below (bel_drew _), bl_trans HS0.out.2.2 (bel_drew _)⟩
            revert q1
            generalize World.drew _ = W1
            intro q1
            refine tk (i := 0) (v := ?_) rfl (Or.inl ⟨by rfl, ?_⟩) ?_
            rotate_left
            · intro Wq hSw
              clear hSw
              go_simp
              all_goals (with_reducible rfl)
            try simp only [Act.put, x2, x4, x5, x6, x7]
            refine tk (i := 1) (v := ?_) rfl (Or.inl ⟨by rfl, ?_⟩) ?_
            rotate_left
            · intro Wq hSw
              clear hSw
              go_simp
              all_goals (with_reducible rfl)
            try simp only [Act.put, x2, x3, x4, x5, x6, x7]
            refine tk (i := 2) (v := ?_) rfl (Or.inl ⟨by rfl, ?_⟩) ?_
            rotate_left
            · intro Wq hSw
              clear hSw
              go_simp
              all_goals (with_reducible rfl)
            try simp only [Act.put, x2, x3, x4, x5, x6, x7]
            refine tk (i := 3) (v := ?_) rfl (Or.inl ⟨by rfl, ?_⟩) ?_
            rotate_left
            · intro Wq hSw
              clear hSw
              go_simp
              all_goals (with_reducible rfl)
            try simp only [Act.put, x2, x3, x4, x5, x6, x7]
            refine tk (i := 4) (v := ?_) rfl (Or.inl ⟨by rfl, ?_⟩) ?_
            rotate_left
            · intro Wq hSw
              obtain ⟨k0, k1⟩ := tokCells_at (id hSw).2.1 hltx HEX.out
              clear hSw
              go_simp
              all_goals (with_reducible rfl)
            try simp only [Act.put, x2, x3, x4, x5, x6, x7]
            refine tk (i := 5) (v := ?_) rfl (Or.inl ⟨by rfl, ?_⟩) ?_
            rotate_left
            · intro Wq hSw
              clear hSw
              go_simp
              all_goals (with_reducible rfl)
            try simp only [Act.put, x2, x3, x4, x5, x6, x7]
            refine tk (i := 6) (v := ?_) rfl (Or.inl ⟨by rfl, ?_⟩) ?_
            rotate_left
            · intro Wq hSw
              clear hSw
              go_simp
              all_goals (with_reducible rfl)
            try simp only [Act.put, x2, x3, x4, x5, x6, x7]
            refine tk (i := 7) (v := ?_) rfl (Or.inl ⟨by rfl, ?_⟩) ?_
            rotate_left
            · intro Wq hSw
              clear hSw
              go_simp
              all_goals (with_reducible rfl)
            try simp only [Act.put, x2, x3, x4, x5, x6, x7]
            refine tk (i := 8) (v := ?_) rfl (Or.inl ⟨by rfl, ?_⟩) ?_
            rotate_left
            · intro Wq hSw
              clear hSw
              go_simp
              all_goals (with_reducible rfl)
            try simp only [Act.put, x2, x3, x4, x5, x6, x7]
            refine tk (i := 9) (v := ?_) rfl (Or.inl ⟨by rfl, ?_⟩) ?_
            rotate_left
            · intro Wq hSw
              obtain ⟨k0, k1⟩ := tokCells_at (id hSw).1 hlt HE.out
              clear hSw
              go_simp
              all_goals (with_reducible rfl)
            try simp only [Act.put, x2, x3, x4, x5, x6, x7]
            refine tk (i := 10) (v := ?_) rfl (Or.inl ⟨by rfl, ?_⟩) ?_
            rotate_left
            · intro Wq hSw
              clear hSw
              go_simp
              all_goals (with_reducible rfl)
            try simp only [Act.put, x2, x3, x4, x5, x6, x7]
            refine tk (i := 11) (v := ?_) rfl (Or.inl ⟨by rfl, ?_⟩) ?_
            rotate_left
            · intro Wq hSw
              clear hSw
              go_simp
              all_goals (with_reducible rfl)
            try simp only [Act.put, x2, x3, x4, x5, x6, x7]
            refine tk (i := 12) (v := ?_) rfl (Or.inl ⟨by rfl, ?_⟩) ?_
            rotate_left
            · intro Wq hSw
              clear hSw
              go_simp
              all_goals (with_reducible rfl)
            try simp only [Act.put, x2, x3, x4, x5, x6, x7]
            refine tk (i := 13) (v := ?_) rfl (Or.inl ⟨by rfl, ?_⟩) ?_
            rotate_left
            · intro Wq hSw
              clear hSw
              go_simp
              all_goals (with_reducible rfl)
            try simp only [Act.put, x2, x3, x4, x5, x6, x7]
            refine tk (i := 14) (v := ?_) rfl (Or.inl ⟨by rfl, ?_⟩) ?_
            rotate_left
            · intro Wq hSw
              clear hSw
              go_simp
              all_goals (with_reducible rfl)
            try simp only [Act.put, x2, x3, x4, x5, x6, x7]
            refine tk (i := 15) (v := ?_) rfl (Or.inl ⟨by rfl, ?_⟩) ?_
            rotate_left
            · intro Wq hSw
              clear hSw
              go_simp
              all_goals (with_reducible rfl)
            try simp only [Act.put, x2, x3, x4, x5, x6, x7]
            refine tk (i := 16) (v := ?_) rfl (Or.inl ⟨by rfl, ?_⟩) ?_
            rotate_left
            · intro Wq hSw
              obtain ⟨k0, k1⟩ := tokCells_at (id hSw).2.1 hltx HEX.out
              clear hSw
              go_simp
              all_goals (with_reducible rfl)
            try simp only [Act.put, x2, x3, x4, x5, x6, x7]
            refine tk (i := 17) (v := ?_) rfl (Or.inl ⟨by rfl, ?_⟩) ?_
            rotate_left
            · intro Wq hSw
              clear hSw
              go_simp
              all_goals (with_reducible rfl)
            try simp only [Act.put, x2, x3, x4, x5, x6, x7]
            refine tk (i := 18) (v := ?_) rfl (Or.inl ⟨by rfl, ?_⟩) ?_
            rotate_left
            · intro Wq hSw
              clear hSw
              go_simp
              all_goals (with_reducible rfl)
            try simp only [Act.put, x2, x3, x4, x5, x6, x7]
            refine tk (i := 19) (v := ?_) rfl (Or.inl ⟨by rfl, ?_⟩) ?_
            rotate_left
            · intro Wq hSw
              clear hSw
              go_simp
              all_goals (with_reducible rfl)
            try simp only [Act.put, x2, x3, x4, x5, x6, x7]
            refine tk (i := 20) (v := ?_) rfl (Or.inl ⟨by rfl, ?_⟩) ?_
            rotate_left
            · intro Wq hSw
              clear hSw
              go_simp
              all_goals (with_reducible rfl)
            try simp only [Act.put, x2, x3, x4, x5, x6, x7]
            refine tk (i := 21) (v := ?_) rfl (Or.inl ⟨by rfl, ?_⟩) ?_
            rotate_left
            · intro Wq hSw
              obtain ⟨k0, k1⟩ := tokCells_at (id hSw).1 hlt HE.out
              clear hSw
              go_simp
              all_goals (with_reducible rfl)
            try simp only [Act.put, x2, x3, x4, x5, x6, x7]
            refine tk (i := 22) (v := ?_) rfl (Or.inl ⟨by rfl, ?_⟩) ?_
            rotate_left
            · intro Wq hSw
              clear hSw
              go_simp
              all_goals (with_reducible rfl)
            try simp only [Act.put, x2, x3, x4, x5, x6, x7]
            refine tk (i := 23) (v := ?_) rfl (Or.inl ⟨by rfl, ?_⟩) ?_
            rotate_left
            · intro Wq hSw
              clear hSw
              go_simp
              all_goals (with_reducible rfl)
            try simp only [Act.put, x2, x3, x4, x5, x6, x7]
            refine tk (i := 24) (v := ?_) rfl (Or.inl ⟨by rfl, ?_⟩) ?_
            rotate_left
            · intro Wq hSw
              clear hSw
              go_simp
              all_goals (with_reducible rfl)
            try simp only [Act.put, x2, x3, x4, x5, x6, x7]
            refine tk (i := 25) (v := ?_) rfl (Or.inl ⟨by rfl, ?_⟩) ?_
            rotate_left
            · intro Wq hSw
              clear hSw
              go_simp
              all_goals (with_reducible rfl)
            try simp only [Act.put, x2, x3, x4, x5, x6, x7]
            refine wpAnyH_done (by kernel_rfl) ?_ _
            go_wp2_with fail
            go_meet
            case rel => exact ⟨rfl, id q1⟩
          case rest =>
          obtain ⟨rfl, hS⟩ := hcut
          clear HS0
          have HS0 := Lib.hid hS
          clear hS
          obtain ⟨m1, m2, m3, m4⟩ := wnum (i := i) (by omega)
          go_wp2_with fail
          clear m1 m2 m3 m4
          go_roundw
          case rel => exact ⟨i + 1, hlt, by rw [Int.natCast_add]; rfl, HS0.out⟩
          case measure => simp [intOf]; omega
        · obtain rfl : i = ts.length := by omega
          have b4 : ((ts.length : Int) < (ts.length : Int)) = False := by simp
          go_wp2_with fail
          (with_reducible refine (K.out _).mono ?_); rintro e w2 ⟨rfl, hb2⟩
          have HG := Lib.hid (bl_trans HS0.out.2.2 hb2)
          clear hb2
          go_wp2
          go_ret
          exact ⟨rfl, HG.out⟩
end Go.Proofs.Ytdoilgddlhadhaa
