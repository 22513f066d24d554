/-
  What the law's known of the inputs' layer answers.
-/
import Derived.Test.YtdpbmkfgolemjaaDoorRdPrints
import Derived.Test.YtdpbmkfgolemjaaDoorRdParses
import Derived.Lib.SlBytesConst
set_option linter.unusedVariables false
set_option linter.unusedSimpArgs false
set_option linter.deprecated false
namespace Go.Proofs.YtdpbmkfgolemjaaDoor
open Go.RowKit

theorem eqP5 (a b : Int) (w : World) : (Op.equalIn 10000 43 (.agg #[.int .i64 a, .int .i64 b]) (.agg #[.int .i64 a, .int .i64 b])).run Tryd.prog w = .ok true w := by
  have hS : Tryd.prog.underlying 43 = some (.struct (Tryd.prog.fieldsOf 43)) := by kernel_rfl
  have hp : Tryd.prog.stoodInHeld 43 = false := by kernel_rfl
  have u4 := Tryd.underlying3
  rw [show (10000 : Nat) = 9999 + 1 from rfl, run_equalIn_agg w 9999 43 _ _ hS hp]
  simp only [Program.fieldsOf, Tryd.underlying43]
  go_simp
theorem eqG5 (a b : Int) (w : World) : (Op.equalIn 10000 62 (.agg #[.int .i64 a, .int .i64 b]) (.agg #[.int .i64 a, .int .i64 b])).run Tryd.prog w = .ok true w := by
  have hS : Tryd.prog.underlying 62 = some (.struct (Tryd.prog.fieldsOf 62)) := by kernel_rfl
  have hp : Tryd.prog.stoodInHeld 62 = false := by kernel_rfl
  have u4 := Tryd.underlying3
  rw [show (10000 : Nat) = 9999 + 1 from rfl, run_equalIn_agg w 9999 62 _ _ hS hp]
  simp only [Program.fieldsOf, Tryd.underlying62]
  go_simp
theorem lit_of5 (s : ByteArray) (w : World) (t : TypeId) (fz : Nat × Nat) (cs : Array Value) (h : cs.toList = s.data.toList.map fun b => .int .u8 (b.toNat : Int)) : BytesIn (w.alloc (.cells cs t fz)) (some ⟨w.heap.size, 0, none⟩) s := by
  have hnew := World.alloc_heap_new w (.cells cs t fz)
  intro i hi
  refine ⟨_, 0, rfl, ?_⟩
  unfold World.cell?
  dsimp only
  rw [hnew]
  show cs[0 + i]? = some _
  have hi2 : i < s.data.toList.length := by simpa using hi
  rw [Nat.zero_add, ← Array.getElem?_toList, h, List.getElem?_map, List.getElem?_eq_getElem hi2]
  rfl
theorem q5_ext {Q : Q5} {p l i : List (Int × Int)} (h1 : Q.p = p) (h2 : Q.l = l) (h3 : Q.i = i) : Q = ⟨p, l, i⟩ := by subst h1; subst h2; subst h3; rfl
/-- Parse of short bytes -/
theorem parse_c5 (s : ByteArray) (hs : s.size ≤ 10000) (ad : Option Addr) (cap : Nat) (w : World) (hB : BytesIn w ad s) {Q : Q5} {at' e : Int} (hp : (prog5 s).1 = Q) (ha : (prog5 s).2.1 = at') (he : (prog5 s).2.2 = e) (hl : Q.p.length ≤ 10000 ∧ Q.l.length ≤ 10000 ∧ Q.i.length ≤ 10000) :
    Calls Tryd.prog 18 #[.slice ad s.size cap] w fun x W => ∃ ap cp al cl ai ci, x = .returned (.tuple #[.agg #[.slice ap Q.p.length cp, .slice al Q.l.length cl, .slice ai Q.i.length ci], .int .i64 at', .int .i64 e]) ∧ Pol5 W ap al ai cp cl ci Q.p Q.l Q.i ∧ Below w.heap.size w W := by
  have h := words_len s
  refine (parse5_l s (by omega) (by omega) (fun x hx => (words_fit6 hs x hx).2) ad cap w hB).mono ?_
  rw [hp, ha, he]
  rintro x W ⟨vp, vl, vi, rfl, h1, h2, h3, hb⟩
  obtain ⟨ap, cp, rfl, a1, a2, a3, -⟩ := own_row5 h1
  obtain ⟨al, cl, rfl, b1, b2, b3, -⟩ := own_row5 h2
  obtain ⟨ai, ci, rfl, c1, c2, c3, -⟩ := own_row5 h3
  exact ⟨ap, cp, al, cl, ai, ci, rfl, ⟨a2, b2, c2, a1, b1, c1, a3, b3, c3, hl.1, hl.2.1, hl.2.2⟩, hb⟩
def tA5 : ByteArray := ⟨#[112, 111, 108, 121, 32, 51, 32, 51, 32, 48, 32, 48, 32, 48, 32, 52, 32, 48, 32, 48, 32, 52, 32, 48, 32, 49, 32, 49, 32, 50, 32, 50, 32, 48]⟩
theorem litA5 (w : World) (t : TypeId) (fz : Nat × Nat) : BytesIn (w.alloc (.cells #[.int .u8 112, .int .u8 111, .int .u8 108, .int .u8 121, .int .u8 32, .int .u8 51, .int .u8 32, .int .u8 51, .int .u8 32, .int .u8 48, .int .u8 32, .int .u8 48, .int .u8 32, .int .u8 48, .int .u8 32, .int .u8 52, .int .u8 32, .int .u8 48, .int .u8 32, .int .u8 48, .int .u8 32, .int .u8 52, .int .u8 32, .int .u8 48, .int .u8 32, .int .u8 49, .int .u8 32, .int .u8 49, .int .u8 32, .int .u8 50, .int .u8 32, .int .u8 50, .int .u8 32, .int .u8 48] t fz)) (some ⟨w.heap.size, 0, none⟩) tA5 := lit_of5 tA5 w t fz _ rfl
set_option maxRecDepth 100000 in
theorem convA5 (w : World) : (convert 37 37 (.slice (some ⟨w.heap.size, 0, none⟩) 34 34)).run Tryd.prog (w.alloc (.cells #[.int .u8 112, .int .u8 111, .int .u8 108, .int .u8 121, .int .u8 32, .int .u8 51, .int .u8 32, .int .u8 51, .int .u8 32, .int .u8 48, .int .u8 32, .int .u8 48, .int .u8 32, .int .u8 48, .int .u8 32, .int .u8 52, .int .u8 32, .int .u8 48, .int .u8 32, .int .u8 48, .int .u8 32, .int .u8 52, .int .u8 32, .int .u8 48, .int .u8 32, .int .u8 49, .int .u8 32, .int .u8 49, .int .u8 32, .int .u8 50, .int .u8 32, .int .u8 50, .int .u8 32, .int .u8 48] 5)) = .ok (.slice (some ⟨w.heap.size, 0, none⟩) 34 34) (w.alloc (.cells #[.int .u8 112, .int .u8 111, .int .u8 108, .int .u8 121, .int .u8 32, .int .u8 51, .int .u8 32, .int .u8 51, .int .u8 32, .int .u8 48, .int .u8 32, .int .u8 48, .int .u8 32, .int .u8 48, .int .u8 32, .int .u8 52, .int .u8 32, .int .u8 48, .int .u8 32, .int .u8 48, .int .u8 32, .int .u8 52, .int .u8 32, .int .u8 48, .int .u8 32, .int .u8 49, .int .u8 32, .int .u8 49, .int .u8 32, .int .u8 50, .int .u8 32, .int .u8 50, .int .u8 32, .int .u8 48] 5 (34, 35))) :=
  Lib.run_convert_bytes_const w 37 5 #[.int .u8 112, .int .u8 111, .int .u8 108, .int .u8 121, .int .u8 32, .int .u8 51, .int .u8 32, .int .u8 51, .int .u8 32, .int .u8 48, .int .u8 32, .int .u8 48, .int .u8 32, .int .u8 48, .int .u8 32, .int .u8 52, .int .u8 32, .int .u8 48, .int .u8 32, .int .u8 48, .int .u8 32, .int .u8 52, .int .u8 32, .int .u8 48, .int .u8 32, .int .u8 49, .int .u8 32, .int .u8 49, .int .u8 32, .int .u8 50, .int .u8 32, .int .u8 50, .int .u8 32, .int .u8 48] 34 34 Tryd.underlying37 Tryd.underlying5
def tB5 : ByteArray := ⟨#[112, 111, 108, 121, 32, 51, 32, 51, 32, 48, 32, 48, 32, 48, 32, 52, 32, 120]⟩
theorem litB5 (w : World) (t : TypeId) (fz : Nat × Nat) : BytesIn (w.alloc (.cells #[.int .u8 112, .int .u8 111, .int .u8 108, .int .u8 121, .int .u8 32, .int .u8 51, .int .u8 32, .int .u8 51, .int .u8 32, .int .u8 48, .int .u8 32, .int .u8 48, .int .u8 32, .int .u8 48, .int .u8 32, .int .u8 52, .int .u8 32, .int .u8 120] t fz)) (some ⟨w.heap.size, 0, none⟩) tB5 := lit_of5 tB5 w t fz _ rfl
set_option maxRecDepth 100000 in
theorem convB5 (w : World) : (convert 37 37 (.slice (some ⟨w.heap.size, 0, none⟩) 18 18)).run Tryd.prog (w.alloc (.cells #[.int .u8 112, .int .u8 111, .int .u8 108, .int .u8 121, .int .u8 32, .int .u8 51, .int .u8 32, .int .u8 51, .int .u8 32, .int .u8 48, .int .u8 32, .int .u8 48, .int .u8 32, .int .u8 48, .int .u8 32, .int .u8 52, .int .u8 32, .int .u8 120] 5)) = .ok (.slice (some ⟨w.heap.size, 0, none⟩) 18 18) (w.alloc (.cells #[.int .u8 112, .int .u8 111, .int .u8 108, .int .u8 121, .int .u8 32, .int .u8 51, .int .u8 32, .int .u8 51, .int .u8 32, .int .u8 48, .int .u8 32, .int .u8 48, .int .u8 32, .int .u8 48, .int .u8 32, .int .u8 52, .int .u8 32, .int .u8 120] 5 (18, 19))) :=
  Lib.run_convert_bytes_const w 37 5 #[.int .u8 112, .int .u8 111, .int .u8 108, .int .u8 121, .int .u8 32, .int .u8 51, .int .u8 32, .int .u8 51, .int .u8 32, .int .u8 48, .int .u8 32, .int .u8 48, .int .u8 32, .int .u8 48, .int .u8 32, .int .u8 52, .int .u8 32, .int .u8 120] 18 18 Tryd.underlying37 Tryd.underlying5
def tC5 : ByteArray := ⟨#[112, 111, 108, 121, 32, 49, 32, 49, 32, 48, 32, 48, 32, 48, 32, 48, 32, 49]⟩
theorem litC5 (w : World) (t : TypeId) (fz : Nat × Nat) : BytesIn (w.alloc (.cells #[.int .u8 112, .int .u8 111, .int .u8 108, .int .u8 121, .int .u8 32, .int .u8 49, .int .u8 32, .int .u8 49, .int .u8 32, .int .u8 48, .int .u8 32, .int .u8 48, .int .u8 32, .int .u8 48, .int .u8 32, .int .u8 48, .int .u8 32, .int .u8 49] t fz)) (some ⟨w.heap.size, 0, none⟩) tC5 := lit_of5 tC5 w t fz _ rfl
set_option maxRecDepth 100000 in
theorem convC5 (w : World) : (convert 37 37 (.slice (some ⟨w.heap.size, 0, none⟩) 18 18)).run Tryd.prog (w.alloc (.cells #[.int .u8 112, .int .u8 111, .int .u8 108, .int .u8 121, .int .u8 32, .int .u8 49, .int .u8 32, .int .u8 49, .int .u8 32, .int .u8 48, .int .u8 32, .int .u8 48, .int .u8 32, .int .u8 48, .int .u8 32, .int .u8 48, .int .u8 32, .int .u8 49] 5)) = .ok (.slice (some ⟨w.heap.size, 0, none⟩) 18 18) (w.alloc (.cells #[.int .u8 112, .int .u8 111, .int .u8 108, .int .u8 121, .int .u8 32, .int .u8 49, .int .u8 32, .int .u8 49, .int .u8 32, .int .u8 48, .int .u8 32, .int .u8 48, .int .u8 32, .int .u8 48, .int .u8 32, .int .u8 48, .int .u8 32, .int .u8 49] 5 (18, 19))) :=
  Lib.run_convert_bytes_const w 37 5 #[.int .u8 112, .int .u8 111, .int .u8 108, .int .u8 121, .int .u8 32, .int .u8 49, .int .u8 32, .int .u8 49, .int .u8 32, .int .u8 48, .int .u8 32, .int .u8 48, .int .u8 32, .int .u8 48, .int .u8 32, .int .u8 48, .int .u8 32, .int .u8 49] 18 18 Tryd.underlying37 Tryd.underlying5
def PA5 : List (Int × Int) := [(0, 0), (4, 0), (0, 4)]
def LA5 : List (Int × Int) := [(0, 1), (1, 2), (2, 0)]
theorem isA5 : (prog5 tA5).1.p = PA5 ∧ (prog5 tA5).1.l = LA5 ∧ (prog5 tA5).1.i = [] ∧ (prog5 tA5).2.1 = 0 ∧ (prog5 tA5).2.2 = 0 := by decide +kernel
theorem isB5 : (prog5 tB5).1.p = [] ∧ (prog5 tB5).1.l = [] ∧ (prog5 tB5).1.i = [] ∧ (prog5 tB5).2.1 = 17 ∧ (prog5 tB5).2.2 = 11 := by decide +kernel
theorem isC5 : (prog5 tC5).1.p = [] ∧ (prog5 tC5).1.l = [] ∧ (prog5 tC5).1.i = [] ∧ (prog5 tC5).2.1 = 17 ∧ (prog5 tC5).2.2 = 10 := by decide +kernel
theorem okA5 : okI5 PA5 LA5 [] = true := by decide +kernel
theorem textA5 : textI5 PA5 LA5 [] = [112, 111, 108, 121, 32, 51, 32, 51, 32, 48, 10, 48, 32, 48, 10, 52, 32, 48, 10, 48, 32, 52, 10, 48, 32, 49, 10, 49, 32, 50, 10, 50, 32, 48, 10] := by decide +kernel
theorem parseA5 (ad : Option Addr) (w : World) (hB : BytesIn w ad tA5) : Calls Tryd.prog 18 #[.slice ad 34 34] w fun x W => ∃ ap cp al cl ai ci, x = .returned (.tuple #[.agg #[.slice ap 3 cp, .slice al 3 cl, .slice ai 0 ci], .int .i64 0, .int .i64 0]) ∧ Pol5 W ap al ai cp cl ci PA5 LA5 [] ∧ Below w.heap.size w W := by
  obtain ⟨h1, h2, h3, h4, h5⟩ := isA5
  exact parse_c5 tA5 (by decide) ad 34 w hB (Q := ⟨PA5, LA5, []⟩) (q5_ext h1 h2 h3) h4 h5 (by decide)
theorem parseB5 (ad : Option Addr) (w : World) (hB : BytesIn w ad tB5) : Calls Tryd.prog 18 #[.slice ad 18 18] w fun x W => ∃ ap cp al cl ai ci, x = .returned (.tuple #[.agg #[.slice ap 0 cp, .slice al 0 cl, .slice ai 0 ci], .int .i64 17, .int .i64 11]) ∧ Below w.heap.size w W := by
  obtain ⟨h1, h2, h3, h4, h5⟩ := isB5
  refine (parse_c5 tB5 (by decide) ad 18 w hB (Q := ⟨[], [], []⟩) (q5_ext h1 h2 h3) h4 h5 (by decide)).mono ?_
  rintro x W ⟨ap, cp, al, cl, ai, ci, rfl, -, hb⟩
  exact ⟨ap, cp, al, cl, ai, ci, rfl, hb⟩
theorem parseC5 (ad : Option Addr) (w : World) (hB : BytesIn w ad tC5) : Calls Tryd.prog 18 #[.slice ad 18 18] w fun x W => ∃ ap cp al cl ai ci, x = .returned (.tuple #[.agg #[.slice ap 0 cp, .slice al 0 cl, .slice ai 0 ci], .int .i64 17, .int .i64 10]) ∧ Below w.heap.size w W := by
  obtain ⟨h1, h2, h3, h4, h5⟩ := isC5
  refine (parse_c5 tC5 (by decide) ad 18 w hB (Q := ⟨[], [], []⟩) (q5_ext h1 h2 h3) h4 h5 (by decide)).mono ?_
  rintro x W ⟨ap, cp, al, cl, ai, ci, rfl, -, hb⟩
  exact ⟨ap, cp, al, cl, ai, ci, rfl, hb⟩
theorem printA5 (ap al ai : Option Addr) (cp cl ci : Nat) (w : World) (hA : Pol5 w ap al ai cp cl ci PA5 LA5 []) (hT : Tab5 w) :
    Calls Tryd.prog 14 #[.agg #[.slice ap 3 cp, .slice al 3 cl, .slice ai 0 ci]] w (Gives (.tuple #[.string ⟨#[112, 111, 108, 121, 32, 51, 32, 51, 32, 48, 10, 48, 32, 48, 10, 52, 32, 48, 10, 48, 32, 52, 10, 48, 32, 49, 10, 49, 32, 50, 10, 50, 32, 48, 10]⟩, .int .i64 0]) w) := by
  refine (show Calls Tryd.prog 14 #[.agg #[.slice ap 3 cp, .slice al 3 cl, .slice ai 0 ci]] w _ from print_l5 PA5 LA5 [] ap al ai cp cl ci w hA hT).mono ?_
  rintro x W ⟨h, hb⟩
  rcases h with ⟨h, -⟩ | ⟨-, s, rfl, hs⟩
  · rw [okA5] at h; cases h
  · rw [textA5] at hs
    have e : s = ⟨#[112, 111, 108, 121, 32, 51, 32, 51, 32, 48, 10, 48, 32, 48, 10, 52, 32, 48, 10, 48, 32, 52, 10, 48, 32, 49, 10, 49, 32, 50, 10, 50, 32, 48, 10]⟩ := nums_inj (hs.trans (by decide +kernel))
    subst e
    exact ⟨rfl, hb⟩
set_option maxHeartbeats 16000000 in
set_option maxRecDepth 100000 in
theorem known_l5 (w : World) (hT : Tab5 w) : Calls Tryd.prog 11 #[] w (Gives (.bool true) w) := by
  have HT := Lib.hid hT
  clear hT
  have hcA := convA5 w
  go_enter Tryd.func11, Tryd.ntmps11
  go_upto_region 2 with (first
    | (go_at_call 18; (with_reducible refine (parseA5 _ _ (litA5 w _ _)).mono ?_); rintro e w1 ⟨ap, cp, al, cl, ai, ci, rfl, hp1, hb1⟩
       have HB := Lib.hid (show Below w.heap.size w w1 from bl_trans (bl_one _ _) hb1)
       have HP := Lib.hid hp1
       clear hb1 hp1)
    | go_in)
  obtain ⟨g1, hg1⟩ : ∃ g, w1.heap.size = g := ⟨_, rfl⟩
  refine wp_abs (fun V => Below w.heap.size w V ∧ Var V g1 [.slice ap 3 cp, .slice al 3 cl, .slice ai 0 ci] ∧ Pol5 V ap al ai cp cl ci PA5 LA5 []) ?_ ?_
  · exact ⟨bl_trans HB.out (by repeat (first | (with_reducible exact Below.refl _ _) | (with_reducible refine bl_alloc ?_ _) | (with_reducible refine Below.drew ?_) | (with_reducible refine below_drewN' ?_ _) | ((with_reducible refine bl_set ?_ ?_ _); (rotate_left; (dsimp only; omega))))), var3o_new _ _ _ _ _ _ hg1.symm, HP.out.below (by repeat (first | (with_reducible exact Below.refl _ _) | (with_reducible refine bl_alloc ?_ _) | (with_reducible refine Below.drew ?_) | (with_reducible refine below_drewN' ?_ _) | ((with_reducible refine bl_set ?_ ?_ _); (rotate_left; (dsimp only; omega)))))⟩
  rintro W0 hS0
  have HS0 := Lib.hid hS0
  try rw [hg1]
  clear hS0 HB HP hg1 hcA
  obtain ⟨d0, d1, d2⟩ := HS0.out.2.1.three6
  go_wp2_with fail
  (with_reducible refine (printA5 _ _ _ _ _ _ _ HS0.out.2.2 (HT.out.below HS0.out.1)).mono ?_); rintro e w2 ⟨rfl, hb2⟩
  have HS2 := Lib.hid (show Below w.heap.size w w2 ∧ Var w2 g1 [.slice ap 3 cp, .slice al 3 cl, .slice ai 0 ci] ∧ Pol5 w2 ap al ai cp cl ci PA5 LA5 [] from ⟨bl_trans HS0.out.1 hb2, HS0.out.2.1.below hb2, HS0.out.2.2.below hb2⟩)
  clear hb2 HS0 d0 d1 d2
  have hcB := convB5 w2
  go_upto_region 4 with (first
    | (go_at_call 18; (with_reducible refine (parseB5 _ _ (litB5 _ _ _)).mono ?_); rintro e w3 ⟨ap2, cp2, al2, cl2, ai2, ci2, rfl, hb3⟩
       have HB3 := Lib.hid (show Below w2.heap.size w2 w3 from bl_trans (bl_one _ _) hb3)
       clear hb3)
    | go_in)
  refine wp_abs (fun V => Below w.heap.size w V ∧ Var V g1 [.slice ap 3 cp, .slice al 3 cl, .slice ai 0 ci] ∧ Pol5 V ap al ai cp cl ci PA5 LA5 []) ?_ ?_
  · have hb : Below w2.heap.size w2 _ := bl_trans HB3.out (bl_one w3 (.cells #[.slice ap2 0 cp2, .slice al2 0 cl2, .slice ai2 0 ci2] 25))
    exact ⟨bl_trans HS2.out.1 hb, HS2.out.2.1.below hb, HS2.out.2.2.below hb⟩
  rintro W4 hS4
  have HS4 := Lib.hid hS4
  clear hS4 HS2 HB3 hcB
  obtain ⟨gp, op, rfl⟩ := HS4.out.2.2.pp.some (by decide)
  obtain ⟨gl, ol, rfl⟩ := HS4.out.2.2.ll.some (by decide)
  obtain ⟨k0, k1⟩ := ptRow_at5 HS4.out.2.2.pp (i := 2) (by decide) (t := (0, 4)) rfl
  obtain ⟨m0, m1⟩ := ptRow_at5 HS4.out.2.2.ll (i := 2) (by decide) (t := (2, 0)) rfl
  have HK := Lib.hid (And.intro (And.intro k0 k1) (And.intro m0 m1))
  clear k0 k1 m0 m1
  have hcC := convC5 W4
  have he1 := fun W => eqP5 0 4 W
  have he2 := fun W => eqG5 2 0 W
  go_wp2_with (first
    | (go_at_call 18; (with_reducible refine (parseC5 _ _ (litC5 _ _ _)).mono ?_); rintro e w5 ⟨ap3, cp3, al3, cl3, ai3, ci3, rfl, hb5⟩
       have hb6 : Below W4.heap.size W4 w5 := bl_trans (bl_one _ _) hb5
       have HB6 := Lib.hid hb6
       obtain ⟨d0, d1, d2⟩ := (HS4.out.2.1.below hb6).three6
       have lg := (HS4.out.2.1.below hb6).lt
       have k0 : w5.cell? ⟨gp, op + 4, none⟩ = some (.int .i64 0) := (hb6.cell (cell_lt HK.out.1.1)).trans HK.out.1.1
       have k1 : w5.cell? ⟨gp, op + 5, none⟩ = some (.int .i64 4) := (hb6.cell (p := ⟨gp, op + 5, none⟩) (cell_lt HK.out.1.1)).trans HK.out.1.2
       have m0 : w5.cell? ⟨gl, ol + 4, none⟩ = some (.int .i64 2) := (hb6.cell (cell_lt HK.out.2.1)).trans HK.out.2.1
       have m1 : w5.cell? ⟨gl, ol + 5, none⟩ = some (.int .i64 0) := (hb6.cell (p := ⟨gl, ol + 5, none⟩) (cell_lt HK.out.2.1)).trans HK.out.2.2
       have lp : gp < w5.heap.size := cell_lt k0
       have ll : gl < w5.heap.size := cell_lt m0
       clear hb5 hb6)
    | go_in)
  go_ret
  exact ⟨rfl, bl_trans HS4.out.1 (bl_trans HB6.out (by repeat (first | (with_reducible exact Below.refl _ _) | (with_reducible refine bl_alloc ?_ _) | (with_reducible refine Below.drew ?_) | (with_reducible refine below_drewN' ?_ _) | ((with_reducible refine bl_set ?_ ?_ _); (rotate_left; (dsimp only; omega))))))⟩
end Go.Proofs.YtdpbmkfgolemjaaDoor
