/-
  strconv.Itoa and strings.Builder, by the shelf.
-/
import Derived.Shelf.Strconv.Itoa3
import Derived.Shelf.Strings.BuilderK
import Derived.Test.YtdpbmkfgolemjaaDoorJoinC
import Derived.Test.YtdpbmkfgolemjaaDoorDecMath
import Derived.Test.YtdpbmkfgolemjaaDoorOpPrts
set_option linter.unusedVariables false
set_option linter.unusedSimpArgs false
set_option linter.deprecated false
namespace Go.Proofs.YtdpbmkfgolemjaaDoor
open Go.RowKit Go.Shelf

def itoaRen5 : Ren where
  f := fun x => match x with
    | 171 => 39 | 243 => 50 | 246 => 63 | 283 => 69 | 284 => 70 | 285 => 71 | 286 => 72 | 129 => 76
    | 317 => 75 | 318 => 77 | 319 => 78 | 320 => 79 | 337 => 82 | 338 => 83 | n => n
  t := fun x => match x with
    | 3 => 3 | 9 => 9 | 2 => 2 | 4 => 4 | 171 => 128 | 0 => 0 | 53 => 129 | 37 => 37 | 5 => 5 | 173 => 132 | 212 => 136 | 51 => 137 | 20 => 20 | 213 => 138 | 46 => 49 | 232 => 143 | 233 => 144 | n => n
  g := fun x => match x with
    | 17 => 0 | 18 => 2 | 19 => 3 | n => n
set_option maxRecDepth 100000 in
theorem itoaLays0 : Lays.n171 Tryd.prog itoaRen5 := by
  constructor
  all_goals first | kernel_rfl | (intro w; kernel_rfl)
set_option maxRecDepth 100000 in
theorem itoaLays5 : LaysM.n171 Tryd.prog itoaRen5 := by
  constructor
  all_goals first | exact itoaLays0 | kernel_rfl | (intro w; kernel_rfl)
theorem dec_digs5 : ∀ (f n : Nat), n < 10 ^ f → n ≠ 0 → (Lib.decDigits n).map (fun b => (b.toNat : Int)) = digs f n
  | 0, n, h, h0 => absurd h (by simp; omega)
  | f + 1, n, h, h0 => by
    rw [Lib.decDigits]
    unfold digs
    rw [if_neg h0]
    by_cases h1 : n < 10
    · rw [dif_pos h1]
      have e0 : n / 10 = 0 := by omega
      have e1 : n % 10 = n := by omega
      rw [e0, e1]
      cases f with
      | zero => simp [digs]; omega
      | succ f => simp [digs]; omega
    · rw [dif_neg h1, List.map_append, dec_digs5 f (n / 10) (by rw [Nat.pow_succ] at h; omega) (by omega)]
      simp
      omega
theorem itoa_nums5 (n : Int) (h0 : -9223372036854775808 ≤ n) (h1 : n ≤ 9223372036854775807) : nums ⟨(Lib.itoa n).toArray⟩ = textZ n := by
  have hb : (9223372036854775808 : Int) < BIG := by
    have := p16le 20 (by decide)
    have e : (9223372036854775808 : Int) < 16 ^ 20 := by decide
    omega
  have e : nums ⟨(Lib.itoa n).toArray⟩ = (Lib.itoa n).map fun b => (b.toNat : Int) := by unfold nums; simp
  rw [e]
  rcases textZ_cases n (by omega) (by omega) with ⟨rfl, h2⟩ | ⟨h2, h3, h4⟩ | ⟨h2, h3, h4⟩
  · rw [h2]; unfold Lib.itoa; rw [if_neg (by decide), Lib.decDigits]; decide
  · rw [h3]; unfold Lib.itoa
    rw [if_neg (by omega), dec_digs5 _ _ h4 (by omega)]
  · rw [h3]; unfold Lib.itoa
    rw [if_pos h2, List.map_cons, dec_digs5 _ _ (by have e : n.natAbs = (-n).toNat := by omega
                                                    rw [e]; exact h4) (by omega)]
    have e : n.natAbs = (-n).toNat := by omega
    rw [e]
    rfl
def Tab5 (w : World) : Prop := Lib.TabIs Tryd.prog w "internal/strconv.uint64pow10" .u64 Lib.pow10Tab
theorem below_grow5 (w : World) (k : Nat) (os : Array Obj) : Below w.heap.size w (Sort.grow (w.drewN k) os) := by
  have h := below_drewN' (Below.refl w.heap.size w) k
  refine ⟨h.os, h.tape, h.output, ?_, fun i hi => ?_⟩
  · have := h.size
    simp only [Sort.grow, Array.size_append]
    omega
  · rw [← h.block i hi]
    have := h.size
    simp only [Sort.grow]
    exact Array.getElem?_append_left (by omega)
theorem Tab5.below {w W : World} (h : Tab5 w) (hb : Below w.heap.size w W) : Tab5 W := by
  unfold Tab5 Lib.TabIs World.var? at *
  cases hg : Tryd.prog.globalNamed "internal/strconv.uint64pow10" with
  | none => rw [hg] at h; cases h
  | some g =>
    rw [hg] at h
    rw [Option.bind_some] at h ⊢
    cases hc : w.heap[g]? with
    | none => rw [hc] at h; cases h
    | some o =>
      rw [hc] at h
      rw [hb.block g (Array.getElem?_eq_some_iff.1 hc).1, hc]
      exact h
theorem itoa_l5 (n : Int) (h0 : -9223372036854775808 ≤ n) (h1 : n ≤ 9223372036854775807) (w : World) (hT : Tab5 w) :
    Calls Tryd.prog 39 #[.int .i64 n] w fun e W => ∃ t : ByteArray, e = .returned (.string t) ∧ nums t = textZ n ∧ Below w.heap.size w W := by
  refine (show Calls Tryd.prog 39 #[.int .i64 n] w _ from Any.strconv_Itoa itoaLays5 n h0 h1 w hT).mono ?_
  rintro e W ⟨rfl, k, os, rfl⟩
  exact ⟨_, rfl, itoa_nums5 n h0 h1, below_grow5 _ _ _⟩
set_option maxRecDepth 100000 in
theorem writeLays5 : Lays.n166 Tryd.prog joinRen := by
  constructor
  all_goals first | kernel_rfl | (intro w; kernel_rfl)
set_option maxRecDepth 100000 in
theorem stringLays5 : Lays.n169 Tryd.prog joinRen := by
  constructor
  all_goals first | kernel_rfl | (intro w; kernel_rfl)
/-- a builder that holds a text -/
def Bd5 (B b : Nat) (t : List Int) (W : World) : Prop := ∃ l : List UInt8, l.map (fun x => (x.toNat : Int)) = t ∧ Lib.IsBuilderF 67 5 B b (Lib.byteCells l) W
/-- all but the builder's blocks stands -/
def Ok5 (b : Nat) (w W : World) : Prop := Lib.OthersKept 5 (some b) w W
theorem byte_app5 (a b : List UInt8) : Lib.byteCells (a ++ b) = Lib.byteCells a ++ Lib.byteCells b := by unfold Lib.byteCells; rw [List.map_append]
theorem write_l5 (B b : Nat) (t : List Int) (s : ByteArray) (w : World) (h : Bd5 B b t w) (ht : t.length ≤ 1000000) (hs : s.size ≤ 1000000) (hBw : B ≤ w.heap.size) :
    Calls Tryd.prog 25 #[.pointer (some ⟨b, 0, none⟩), .string s] w fun e W => e = .returned (.tuple #[.int .i64 s.size, .nilIface]) ∧ Bd5 B b (t ++ nums s) W ∧ Below B w W ∧ Ok5 b w W := by
  obtain ⟨l, rfl, hl⟩ := h
  have hlen : (Lib.byteCells l).length + s.size ≤ 140737488355328 := by
    unfold Lib.byteCells
    rw [List.length_map] at ht ⊢
    omega
  refine (show Calls Tryd.prog 25 #[.pointer (some ⟨b, 0, none⟩), .string s] w _ from Any.Builder_WriteString_k writeLays5 joinExtra B b (Lib.byteCells l) s w hl hlen hBw).mono ?_
  rintro e W ⟨rfl, h1, h2, h3⟩
  refine ⟨rfl, ⟨l ++ s.data.toList, by rw [List.map_append]; rfl, .inr ?_⟩, h2, h3⟩
  rw [byte_app5]
  exact h1
theorem string_l5 (B b : Nat) (t : List Int) (w : World) (h : Bd5 B b t w) (hBw : B ≤ w.heap.size) :
    Calls Tryd.prog 27 #[.pointer (some ⟨b, 0, none⟩)] w fun e W => ∃ s : ByteArray, e = .returned (.string s) ∧ nums s = t ∧ Below B w W := by
  obtain ⟨l, rfl, hl⟩ := h
  refine (show Calls Tryd.prog 27 #[.pointer (some ⟨b, 0, none⟩)] w _ from Any.Builder_String_any_k stringLays5 joinExtra B b l w hl hBw).mono ?_
  rintro e W ⟨rfl, h1, h2, h3⟩
  exact ⟨_, rfl, by unfold nums; simp, h2⟩
theorem Bd5.alloc {B b : Nat} {t : List Int} {W : World} (h : Bd5 B b t W) (o : Obj) : Bd5 B b t (W.alloc o) := by
  obtain ⟨l, h1, h2⟩ := h
  exact ⟨l, h1, h2.alloc o⟩
end Go.Proofs.YtdpbmkfgolemjaaDoor

/-
  A line of numbers: contract of input.line.
-/
namespace Go.Proofs.YtdpbmkfgolemjaaDoor
open Go.RowKit

def lineZ (L : List Int) : List Int := joinL (L.map textZ)
set_option maxHeartbeats 8000000 in
set_option maxRecDepth 100000 in
theorem line_l5 (L : List Int) (hL : ∀ z ∈ L, -9223372036854775808 ≤ z ∧ z ≤ 9223372036854775807) (hlen : L.length ≤ 100) (hj : (lineZ L).length ≤ 10000) (g o cap : Nat) (w : World) (hT : Tab5 w)
    (hR : ∀ i (h : i < L.length), w.cell? ⟨g, o + i, none⟩ = some (.int .i64 L[i])) (h0 : 0 < L.length) :
    Calls Tryd.prog 26 #[.slice (some ⟨g, o, none⟩) L.length cap] w fun e W => ∃ s : ByteArray, e = .returned (.string s) ∧ nums s = lineZ L ∧ Below w.heap.size w W := by
  have HL := Lib.hid hL
  have HT := Lib.hid hT
  have HR := Lib.hid hR
  have HJ0 := Lib.hid hj
  have CI := Lib.hid (fun n h0 h1 W h => itoa_l5 n h0 h1 W h)
  obtain ⟨e0, hi0, hz0, hz1, hz2⟩ := info_parts info_str
  clear hL hT hR hj
  go_enter Tryd.func26, Tryd.ntmps26
  go_wp2_with fail
  go_loopw [3, 8] (fun lv iv W => ∃ (i : Nat) (S : List ByteArray), iv = .int .i64 i ∧ i ≤ L.length ∧ S.length = i ∧ Hid (S.map nums = (L.take i).map textZ) ∧ Os w lv S W) (fun _ iv _ => L.length + 1 - (intOf iv).toNat)
  case atStart => exact ⟨0, [], rfl, Nat.zero_le _, rfl, rfl, ⟨World.ownsRow_nil _ _ _ _, Below.refl _ _, Nat.le_refl _⟩⟩
  case round =>
    obtain ⟨i, S, rfl, hi', hSl, HM, hO⟩ := hrel
    have HO := Lib.hid hO
    have hsz := hO.sz
    clear hO
    by_cases hlt : i < L.length
    · have c0 := (HO.out.hb.cell (p := ⟨g, o + i, none⟩) (cell_lt (HR.out i hlt))).trans (HR.out i hlt)
      obtain ⟨z, hz⟩ : ∃ z, L[i] = z := ⟨_, rfl⟩
      rw [hz] at c0
      have HZ := Lib.hid hz
      have hzb := HL.out z (hz ▸ List.getElem_mem hlt)
      have HC := Lib.hid (CI.out z hzb.1 hzb.2 _ (HT.out.below HO.out.hb))
      clear hz hzb
      go_wp2_with fail
      (with_reducible refine HC.out.mono ?_); rintro e w3 ⟨t, rfl, ht, hb3⟩
      have HO3 := Lib.hid (HO.out.below hb3)
      have HTT := Lib.hid ht
      clear hb3 ht HC c0
      go_wp2_with (first | (at_builtin; refine wpList_append_own_at _ rfl _ _ 52 rfl w.heap.size 9 e0 (.string ⟨#[]⟩) 1 16 Tryd.underlying52 hi0 hz0 hz1 hz2 rfl (by decide) _ _ _ rfl (HO3.out.alloc _).own ⟨_, 0, none⟩ 1 1 (sv [t]) rfl rfl (cell_one_new _ _ _) (sv_one _) (by unfold maxLen; omega) (by omega) (HO3.out.alloc _).sz ?_) | go_in)
      intro v' w4 hown hgrow _ _
      have HO4 := Lib.hid ((HO3.out.alloc _).more (M := [t]) (by simp; omega) hown hgrow)
      clear hown hgrow
      go_wp2_with fail
      go_roundw
      case rel => exact ⟨i + 1, S ++ [t], by first | rfl | simp, hlt, by simp; omega, by
        unfold Hid
        rw [List.map_append, HM.out, List.take_add_one, List.getElem?_eq_getElem hlt, HZ.out, List.map_append]
        simp [HTT.out], HO4.out⟩
      case measure => simp [intOf]; omega
    · obtain rfl : i = L.length := by omega
      have hS : S.map nums = L.map textZ := by rw [HM.out, List.take_length]
      have HS := Lib.hid hS
      obtain ⟨ad, cp, hv, hcap, hR⟩ := os_row HO.out
      have hJ := tjoin_any ad cp S _ hR hcap (by have := HJ0.out; unfold lineZ at this; rw [hS]; omega)
      rw [hSl] at hJ hv
      have HJ := Lib.hid hJ
      have HB := Lib.hid HO.out.hb
      subst hv
      clear hS hR hcap hJ HO
      go_wp2_with fail
      (with_reducible refine HJ.out.mono ?_); rintro e w5 ⟨sj, rfl, hj, hb5⟩
      have HB5 := Lib.hid (bl_trans HB.out hb5)
      have HSJ : Hid (nums sj = lineZ L) := by have := hj.out; rw [HS.out] at this; exact this
      clear hb5 hj HJ
      go_wp2_with fail
      go_ret
      exact ⟨sj, rfl, HSJ.out, HB5.out⟩
end Go.Proofs.YtdpbmkfgolemjaaDoor
