/-
  Contract of the document's side: Text.
-/
import Derived.Test.YtdpbmkfgolemjaaDoorRefTen
import Derived.Test.YtdpbmkfgolemjaaDoorQuots
import Derived.Test.YtdpbmkfgolemjaaDoorAreas
import Derived.Deep.DeepCutAuto
set_option linter.unusedVariables false
set_option linter.unusedSimpArgs false
set_option linter.deprecated false
namespace Go.Proofs.YtdpbmkfgolemjaaDoor
open Go.RowKit

def K5 : Nat := 499
/-- a number's text -/
def textZ (z : Int) : List Int := if z = 0 then [48] else (if z < 0 then [45] else []) ++ digs (K5 + 1) z.natAbs
theorem digs_zero : ∀ f, digs f 0 = []
  | 0 => rfl
  | f + 1 => by simp [digs]
theorem digs_more' (k n : Nat) (h0 : n ≠ 0) (h : n < 10 ^ (k + 1)) : digs (k + 1) n = digs (k + 1) (n / 10) ++ [48 + ((n % 10 : Nat) : Int)] := by
  have e : digs (k + 1) n = digs k (n / 10) ++ [48 + ((n % 10 : Nat) : Int)] := by
    show (if n = 0 then [] else digs k (n / 10) ++ [48 + ((n % 10 : Nat) : Int)]) = _
    rw [if_neg h0]
  have hq : n / 10 < 10 ^ k := by rw [Nat.pow_succ] at h; omega
  rw [e, digs_fuel k (n / 10) hq (k + 1) (by omega)]
theorem digs_more (n : Nat) (h0 : n ≠ 0) (h : n < 10 ^ (K5 + 1)) : digs (K5 + 1) n = digs (K5 + 1) (n / 10) ++ [48 + ((n % 10 : Nat) : Int)] := digs_more' K5 n h0 h
theorem toNat_lt (x B : Int) (N : Nat) (hB : B < (N : Int)) (hN : 0 < N) (h : x < B) : x.toNat < N := by omega
theorem big_lt : BIG < ((10 ^ (K5 + 1) : Nat) : Int) := by unfold BIG K5; decide +kernel
theorem big_nat (x : Int) (h : x < BIG) : x.toNat < 10 ^ (K5 + 1) := toNat_lt x BIG _ big_lt (Nat.pow_pos (by omega)) h
theorem conv1 (w : World) (x : Int) (T : TypeId) (g : Nat) (hg : g = w.heap.size) :
    (convert 37 9 (.slice (some ⟨g, 0, none⟩) 1 1)).run Tryd.prog (w.alloc (.cells #[.int .u8 x] T)) = .ok (.string (strOfNums [x])) (w.alloc (.cells #[.int .u8 x] T)) := by
  subst hg
  exact run_convert_bytes_arg _ 37 5 Tryd.underlying37 Tryd.underlying5 w.heap.size 0 1 1 [x] rfl (fun i hi => by
    obtain rfl : i = 0 := by simp at hi; omega
    simp [go_sem]) 9 Tryd.underlying9
theorem textOf_Z (m : Bool) (V : Int) (h0 : 0 ≤ V) (h1 : V < M256) : textOf m V.toNat = textZ (if m then -V else V) := by
  have h78 := m256_lt
  have hlt : V.toNat < 10 ^ 78 := by
    have : ((V.toNat : Nat) : Int) < 10 ^ 78 := by omega
    exact_mod_cast this
  unfold textOf textZ
  have e : digs 80 V.toNat = digs (K5 + 1) V.toNat := by rw [digs_fuel 78 _ hlt 80 (by omega), digs_fuel 78 _ hlt (K5 + 1) (by unfold K5; omega)]
  rw [e]
  by_cases hz : V = 0
  · subst hz; cases m <;> simp
  · cases m
    · simp only [Bool.false_eq_true, if_false]
      rw [if_neg (by omega), if_neg hz, if_neg (by omega), show V.natAbs = V.toNat by omega]
    · simp only [if_true]
      rw [if_neg (by omega), if_neg (by omega), if_pos (by omega), show (-V).natAbs = V.toNat by omega]
def strLen : Value → Nat
  | .string s => s.size
  | _ => 0
theorem str_cons (x : Int) (ds : List Int) : strOfNums [x] ++ strOfNums ds = strOfNums (x :: ds) := ByteArray.ext (by simp [strOfNums])
theorem str_cons45 (ds : List Int) : (⟨#[45]⟩ : ByteArray) ++ strOfNums ds = strOfNums (45 :: ds) := str_cons 45 ds

/-- the frame of Text -/
structure NTxt (w : World) (m : Bool) (s : Value) (W : World) : Prop where
  c0 : W.cell? ⟨w.heap.size, 0, none⟩ = some (.bool m)
  c1 : W.cell? ⟨w.heap.size, 1, none⟩ = some s
  lt : w.heap.size < W.heap.size
  hb : Below w.heap.size w W
theorem NTxt.below {w : World} {m : Bool} {s : Value} {W W' : World} (h : NTxt w m s W) (hb : Below W.heap.size W W') : NTxt w m s W' :=
  ⟨(hb.cell (by exact h.lt)).trans h.c0, (hb.cell (by exact h.lt)).trans h.c1, Nat.lt_of_lt_of_le h.lt hb.size, bl_trans h.hb hb⟩

/-- ahead of a round -/
def RTextR (w : World) (m : Bool) (s : Value) (V : Int) (sv dv : Value) (W : World) : Prop :=
  ∃ (ds : List Int) (ad : Option Addr) (n c : Nat) (f : Nat → Int), sv = .string (strOfNums ds) ∧ dv = .slice ad n c ∧ Hid (DigAt W ad n c f) ∧ n ≤ 100 ∧ Hid (digs (K5 + 1) V.toNat = digs (K5 + 1) (dval f n).toNat ++ ds ∧ dval f n ≤ V) ∧ NTxt w m s W
theorem rt_step {V : Int} {f f' : Nat → Int} {n n' : Nat} {r : Int} {ds : List Int} (hV : V < BIG) (hq : digs (K5 + 1) V.toNat = digs (K5 + 1) (dval f n).toNat ++ ds ∧ dval f n ≤ V) (h0 : 0 < dval f n) (h0' : 0 ≤ dval f' n') (e : dval f n = 10 * dval f' n' + r) (hr0 : 0 ≤ r) (hr1 : r < 10) :
    (digs (K5 + 1) V.toNat = digs (K5 + 1) (dval f' n').toNat ++ ((48 + r) :: ds) ∧ dval f' n' ≤ V) ∧ ds.length + 1 ≤ K5 + 1 := by
  have hlt : (dval f n).toNat < 10 ^ (K5 + 1) := big_nat _ (by omega)
  have e1 := digs_more (dval f n).toNat (by omega) hlt
  have e2 : (dval f n).toNat / 10 = (dval f' n').toNat := by omega
  have e3 : (((dval f n).toNat % 10 : Nat) : Int) = r := by omega
  rw [e2, e3] at e1
  refine ⟨⟨?_, by omega⟩, ?_⟩
  · rw [hq.1, e1]; simp
  · have hl := digs_length (K5 + 1) V.toNat
    rw [hq.1, e1] at hl
    simp at hl
    omega

set_option maxHeartbeats 2000000 in
set_option maxRecDepth 100000 in
theorem refText_num (v : Value) (z : Int) (w : World) (hN : NumIs v z w) (hz : -BIG < z ∧ z < BIG) :
    Calls Tryd.prog 22 #[v] w fun e w' => e = .returned (.string (strOfNums (textZ z))) ∧ Below w.heap.size w w' := by
  obtain ⟨m, ad, n, c, f, rfl, hd, hm, rfl⟩ := hN
  have hn := len_of hd m hz.1 hz.2
  have hpos := dval_bound hd.bd n
  have hnz := num_zero hd
  have D := Lib.hid hd
  go_enter Tryd.func22, Tryd.ntmps22
  go_upto_region 1 with (fail)
  refine wp_abs (fun W => NTxt w m (.slice ad n c) W) ?_ ?_
  · constructor <;> first | (simp [go_sem]; done) | repeat (first | (with_reducible exact Below.refl _ _) | (with_reducible refine bl_alloc ?_ _) | (with_reducible refine Below.drew ?_) | (with_reducible refine below_drewN' ?_ _) | ((with_reducible refine bl_set ?_ ?_ _); (rotate_left; (dsimp only; omega))))
  intro W2 hW
  have c1 := hW.c1
  have HW := Lib.hid hW
  clear hW
  by_cases h0 : n = 0
  · subst h0
    go_wp2
    go_ret
    exact ⟨by simp [textZ, dval]; rfl, HW.out.hb⟩
  · have hV0 : 0 < dval f n := by
      rcases Int.lt_or_eq_of_le hpos.1 with h | h
      · exact h
      · exact absurd (hnz.1 h.symm) h0
    have hVB : dval f n < BIG := by
      cases m
      · have := hz.2; simp [sg] at this; exact this
      · have := hz.1; simp [sg] at this; omega
    have HV := Lib.hid (And.intro hV0 hVB)
    have b1 : ((n : Int) == 0) = false := by simp; omega
    have HZ : Hid (textZ (sg m * dval f n) = (if m then [45] else []) ++ digs (K5 + 1) (dval f n).toNat) := by
      unfold Hid textZ
      cases m
      · simp only [sg, Bool.false_eq_true, if_false, Int.one_mul]
        rw [if_neg (by omega), if_neg (by omega), show (dval f n).natAbs = (dval f n).toNat by omega]
      · simp only [sg, if_true]
        rw [if_neg (by omega), if_pos (by omega), show (-1 * dval f n).natAbs = (dval f n).toNat by omega]
    clear hd hpos hnz hV0 hVB hm hz
    generalize hV : dval f n = V at *
    have HVV := Lib.hid hV
    clear hV
    go_wp2
    go_loopw [3, 4] (fun sv dv W => RTextR w m (.slice ad n c) V sv dv W) (fun sv _ _ => K5 + 2 - strLen sv)
    case atStart => exact ⟨[], ad, n, c, f, by first | rfl | simp [strOfNums], rfl, D.out.below HW.out.hb, hn, ⟨by rw [HVV.out]; simp, by rw [HVV.out]; omega⟩, HW.out⟩
    case round =>
      clear c1
      obtain ⟨ds, ad', n', c', f', rfl, rfl, hD, hn', HQ, hS⟩ := hrel
      have HS := Lib.hid hS
      clear hS
      by_cases hgo : 0 < n'
      · have hf0 : 0 < dval f' n' := by
          have h1 := (dval_bound hD.out.bd n').1
          have h2 := num_zero hD.out
          rcases Int.lt_or_eq_of_le h1 with h | h
          · exact h
          · have := h2.1 h.symm; omega
        have HF := Lib.hid hf0
        clear hf0
        go_wp2_with (first
          | (go_at_call 36; (with_reducible refine (refTenth_c ad' n' c' f' hn' hgo _ hD.out).mono ?_); rintro e w4 ⟨ad2, n2, c2, f2, r, rfl, hD2, hv, hr0, hr1, hb4⟩
             have HD2 := Lib.hid hD2
             have hst := Lib.hid (rt_step HV.out.2 HQ.out HF.out (dval_bound hD2.bd n2).1 hv hr0 hr1)
             have hn2 : n2 ≤ 100 := by
               have h3 : dval f2 n2 < BIG := by have := HV.out.2; have := hst.out.1.2; omega
               exact len_of hD2 false (by have := (dval_bound hD2.bd n2).1; have := HV.out; simp [sg]; omega) (by simpa [sg] using h3)
             have HS2 := Lib.hid (HS.out.below hb4)
             have hcv := fun T => conv1 w4 (48 + r) T w4.heap.size rfl
             have hs1 := strOfNums_size [48 + r]
             have hs2 := strOfNums_size ds
             have hl : ds.length ≤ 1000 := by have := hst.out.2; unfold K5 at this; omega
             clear hD2 hv hb4)
          | go_in)
        go_roundw
        case rel =>
          refine ⟨(48 + r) :: ds, ad2, n2, c2, f2, by first | rfl | (rw [← str_cons]), rfl, HD2.out.below (bl_one _ _), hn2, hst.out.1, HS2.out.below (bl_one _ _)⟩
        case measure =>
          have := hst.out.2
          simp [strLen, strOfNums_size] <;> omega
      · obtain rfl : n' = 0 := by omega
        have k0 := HS.out.c0
        have hds : digs (K5 + 1) V.toNat = ds := by have := HQ.out.1; rw [show dval f' 0 = 0 from rfl, Int.toNat_zero, digs_zero, List.nil_append] at this; exact this
        have HDS := Lib.hid hds
        have hs2 := strOfNums_size ds
        have hl : ds.length ≤ 1000 := by have := digs_length (K5 + 1) V.toNat; rw [hds] at this; unfold K5 at this; omega
        clear hds
        cases m
        · go_wp2
          go_ret
          exact ⟨by rw [HVV.out, HZ.out, HDS.out]; first | rfl | simp, HS.out.hb⟩
        · go_wp2
          go_ret
          exact ⟨by rw [HVV.out, HZ.out, HDS.out]; first | rfl | (simp; exact str_cons45 ds), HS.out.hb⟩
end Go.Proofs.YtdpbmkfgolemjaaDoor
