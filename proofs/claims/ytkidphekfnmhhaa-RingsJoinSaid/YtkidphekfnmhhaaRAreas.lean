/-
  The plain mathematics of rings.Area.
-/
import Derived.Test.YtkidphekfnmhhaaRSegsAll
import Derived.Test.YtkidphekfnmhhaaGeoAll
import Derived.Deep.DeepCutAuto
namespace Go.Proofs.Ytkidphekfnmhhaa
open Go.RowKit

def stripZ (p : List Pt) (s : Pt) : Int := ((pget p s.x.toNat).x - (pget p s.y.toNat).x) * ((pget p s.x.toNat).y + (pget p s.y.toNat).y)
def areaZ (p : List Pt) (ring : List Int) : Int := ((ringSegs ring).map (stripZ p)).sum
/-- indexes of places that fit, not too many -/
def okR (p : List Pt) (ring : List Int) : Prop := ring.length ≤ 1048576 ∧ ∀ i ∈ ring, 0 ≤ i ∧ i < (p.length : Int) ∧ fitB (pget p i.toNat) = true
instance (p : List Pt) (ring : List Int) : Decidable (okR p ring) := by unfold okR; exact inferInstance
def AreaP (p : List Pt) (ring : List Int) (w : World) (e : Ending) (w' : World) : Prop :=
  Below w.heap.size w w' ∧ if okR p ring then e = .returned (.tuple #[(.agg #[.bool (QM (areaZ p ring)), .int .u64 (Q0 (areaZ p ring)), .int .u64 (Q1 (areaZ p ring)), .int .u64 (Q2 (areaZ p ring)), .int .u64 (Q3 (areaZ p ring))]), .int .i64 0]) else e = .returned (.tuple #[(.agg #[.bool (QM (0)), .int .u64 (Q0 (0)), .int .u64 (Q1 (0)), .int .u64 (Q2 (0)), .int .u64 (Q3 (0))]), .int .i64 2])
theorem zero_wide : ((.agg #[.bool (QM (0)), .int .u64 (Q0 (0)), .int .u64 (Q1 (0)), .int .u64 (Q2 (0)), .int .u64 (Q3 (0))]) : Value) = .agg #[.bool false, .int .u64 0, .int .u64 0, .int .u64 0, .int .u64 0] := by
  have h0 : Q0 0 = 0 := by decide
  have h1 : Q1 0 = 0 := by decide
  have h2 : Q2 0 = 0 := by decide
  have h3 : Q3 0 = 0 := by decide
  rw [h0, h1, h2, h3]
  rfl
def stripTo (p : List Pt) (l : List Pt) (k : Nat) : Int := ((l.take k).map (stripZ p)).sum
theorem stripTo_zero (p l : List Pt) : stripTo p l 0 = 0 := rfl
theorem stripTo_succ (p : List Pt) {l : List Pt} {k : Nat} (h : k < l.length) : stripTo p l (k + 1) = stripTo p l k + stripZ p (pget l k) := by
  unfold stripTo
  rw [take_snoc l h, List.map_append, List.sum_append]
  simp
theorem fit_bd {q : Pt} (h : fitB q = true) : -4294967296 ≤ q.x ∧ q.x ≤ 4294967296 ∧ -4294967296 ≤ q.y ∧ q.y ≤ 4294967296 := fitB_iff.1 h
theorem mul_bd {x y : Int} (hx : -8589934592 ≤ x ∧ x ≤ 8589934592) (hy : -8589934592 ≤ y ∧ y ≤ 8589934592) : -73786976294838206464 ≤ x * y ∧ x * y ≤ 73786976294838206464 := by
  have h1 : x.natAbs ≤ 8589934592 := by omega
  have h2 : y.natAbs ≤ 8589934592 := by omega
  have h3 : (x * y).natAbs ≤ 8589934592 * 8589934592 := by rw [Int.natAbs_mul]; exact Nat.mul_le_mul h1 h2
  omega
theorem strip_bd {p : List Pt} {s : Pt} (h1 : fitB (pget p s.x.toNat) = true) (h2 : fitB (pget p s.y.toNat) = true) : -73786976294838206464 ≤ stripZ p s ∧ stripZ p s ≤ 73786976294838206464 := by
  have := fit_bd h1
  have := fit_bd h2
  exact mul_bd (by omega) (by omega)
theorem stripTo_bd {p l : List Pt} (h : ∀ s ∈ l, fitB (pget p s.x.toNat) = true ∧ fitB (pget p s.y.toNat) = true) : ∀ k, k ≤ l.length → -((k : Int) * 73786976294838206464) ≤ stripTo p l k ∧ stripTo p l k ≤ (k : Int) * 73786976294838206464
  | 0, _ => by rw [stripTo_zero]; omega
  | k + 1, hk => by
    have h1 := stripTo_bd h k (by omega)
    have h2 := h _ (pget_mem (l := l) (k := k) (by omega))
    have h3 := strip_bd h2.1 h2.2
    rw [stripTo_succ p (by omega)]
    omega
theorem mem_ringSegs {R : List Int} {s : Pt} (h : s ∈ ringSegs R) : s.x ∈ R ∧ s.y ∈ R := by
  unfold ringSegs at h
  obtain ⟨i, hi, rfl⟩ := List.mem_map.1 h
  have hi := List.mem_range.1 hi
  have hk : (i + 1) % R.length < R.length := Nat.mod_lt _ (by omega)
  dsimp only
  rw [List.getD_eq_getElem?_getD, List.getD_eq_getElem?_getD, List.getElem?_eq_getElem hi, List.getElem?_eq_getElem hk]
  exact ⟨List.getElem_mem _, List.getElem_mem _⟩
theorem bw_small {z : Int} (h : -737869762948382064640000000 ≤ z ∧ z ≤ 737869762948382064640000000) : BW z := by unfold BW M256; omega
theorem wides2_wd8 (w : World) (x y : Int) (t : TypeId) : WidesAt (w.alloc (.cells #[.bool (QM x), .int .u64 (Q0 x), .int .u64 (Q1 x), .int .u64 (Q2 x), .int .u64 (Q3 x), .bool (QM y), .int .u64 (Q0 y), .int .u64 (Q1 y), .int .u64 (Q2 y), .int .u64 (Q3 y)] t)) w.heap.size 0 [wd x, wd y] :=
  wides2 w (wd x) (wd y) (wd_ok x) (wd_ok y) t
end Go.Proofs.Ytkidphekfnmhhaa

/-
  Contract of rings.Area.
-/
namespace Go.Proofs.Ytkidphekfnmhhaa
open Go.RowKit

theorem PtRow.far2 {W : World} {l : List Pt} {g gS oS : Nat} (h : PtRow W (.some ⟨gS, oS, none⟩) l) (hne : g ≠ gS) (j : Nat) (u : Value) : PtRow (W.setCell ⟨g, j, none⟩ u) (.some ⟨gS, oS, none⟩) l := by
  intro i hi
  obtain ⟨g', o', e, h1, h2⟩ := h i hi
  cases e
  exact ⟨_, _, rfl, (World.cell?_setCell_other _ _ _ _ (by intro e; exact hne (congrArg Addr.block e))).trans h1, (World.cell?_setCell_other _ _ _ _ (by intro e; exact hne (congrArg Addr.block e))).trans h2⟩
theorem rowsAt_one (W : World) (ad : Option Addr) (R : List Int) (cap : Nat) (h : IntRow W ad R) (hc : R.length ≤ cap) (hn : ad = none → cap = 0) (t : TypeId) : RowsAt (W.alloc (.cells #[.slice ad R.length cap] t)) (some ⟨W.heap.size, 0, none⟩) [R] := by
  intro i hi
  obtain rfl : i = 0 := by simpa using hi
  exact ⟨_, _, ad, cap, rfl, by simp [go_sem], hc, h.below (bl_one _ _), hn⟩
set_option maxHeartbeats 8000000 in
set_option maxRecDepth 100000 in
theorem area_l (p : List Pt) (ring : List Int) (ap ar : Option Addr) (cp cr : Nat) (w : World) (hP : PtRow w ap p) (hR : IntRow w ar ring) (hcr : ring.length ≤ cr) (hnr : ar = none → cr = 0) (hlen : ring.length ≤ 10000) (hpl : p.length ≤ 10000) :
    Calls Try.prog 42 #[.slice ap p.length cp, .slice ar ring.length cr] w (AreaP p ring w) := by
  have HP := Lib.hid hP
  have HR := Lib.hid hR
  have HN := Lib.hid hnr
  clear hP hR hnr
  go_enter Try.func42, Try.ntmps42
  have b0 : ((1048576 : Int) < (ring.length : Int)) = False := eq_false (by omega)
  go_upto_region 1 with (fail)
  have HV4 := Lib.hid (var5_new w (.bool false) (.int .u64 0) (.int .u64 0) (.int .u64 0) (.int .u64 0) 80 w.heap.size rfl)
  have HB1 := Lib.hid (bl_one w (.cells #[.bool false, .int .u64 0, .int .u64 0, .int .u64 0, .int .u64 0] 80))
  have hs1 : (w.alloc (.cells #[.bool false, .int .u64 0, .int .u64 0, .int .u64 0, .int .u64 0] 80)).heap.size = w.heap.size + 1 := by simp
  generalize w.alloc (.cells #[.bool false, .int .u64 0, .int .u64 0, .int .u64 0, .int .u64 0] 80) = W1 at *
  obtain ⟨g4, hg4⟩ : ∃ g, w.heap.size = g := ⟨_, rfl⟩
  rw [hg4] at HV4 hs1 ⊢
  have HG4 := Lib.hid hg4
  clear hg4
  go_wp2_with fail
  go_loopw [21] (fun iv W => ∃ k : Nat, k ≤ ring.length ∧ iv = .int .i64 k ∧ (∀ i ∈ ring.take k, 0 ≤ i ∧ i < (p.length : Int) ∧ fitB (pget p i.toNat) = true) ∧ Below W1.heap.size W1 W) (fun iv _ => ring.length - (intOf iv).toNat)
  case atStart => exact ⟨0, Nat.zero_le _, rfl, fun i hi => by simp at hi, Below.refl _ _⟩
  case round =>
    obtain ⟨k, hk, rfl, hA, hB⟩ := hrel
    have HA := Lib.hid hA
    have HB := Lib.hid hB
    clear hA hB
    by_cases hlt : k < ring.length
    · have b2 : ((k : Int) < (ring.length : Int)) = True := eq_true (by omega)
      have d2 : (k < ring.length) = True := eq_true hlt
      have c2 : ((0 : Int) ≤ (k : Int)) = True := eq_true (by omega)
      obtain ⟨gr, or, rfl⟩ := HR.out.some (by omega)
      have HBw := Lib.hid (bl_trans HB1.out HB.out)
      obtain ⟨x, hx⟩ : ∃ x, ring[k] = x := ⟨_, rfl⟩
      have k0 := intRow_at (HR.out.below HBw.out) hlt hx
      have HX := Lib.hid hx
      have hmem : x ∈ ring := by rw [← hx]; exact List.getElem_mem _
      obtain ⟨m1, m2, m3, m4⟩ := wnum (i := k) (by omega)
      have HV := Lib.hid (HV4.out.below HB.out)
      clear hx
      by_cases h0 : x < 0
      · have e0 : (x < 0) = True := eq_true h0
        have hNo : Hid (¬ okR p ring) := fun h => by have := (h.2 x hmem).1; omega
        obtain ⟨r0, r1, r2, r3, r4⟩ := HV.out.five
        obtain ⟨f0, f1, f2, f3, f4⟩ := HV.out.free5
        clear h0 hmem
        go_wp2_with fail
        refine bodyPost_ret (v := .tuple #[(.agg #[.bool (QM (0)), .int .u64 (Q0 (0)), .int .u64 (Q1 (0)), .int .u64 (Q2 (0)), .int .u64 (Q3 (0))]), .int .i64 2]) (by rw [zero_wide]; simp [results, Try.results42, go_sem, r0, r1, r2, r3, r4]; done) rfl ⟨?_, ?_⟩
        · have hg := HG4.out
          refine bl_set (bl_set (bl_set (bl_set (bl_set HBw.out ?_ _) ?_ _) ?_ _) ?_ _) ?_ _ <;> (dsimp only; omega)
        · rw [if_neg hNo.out]
      · have e0 : (x < 0) = False := eq_false h0
        obtain ⟨a, rfl⟩ := Int.eq_ofNat_of_zero_le (by omega : 0 ≤ x)
        by_cases h1 : (p.length : Int) ≤ (a : Int)
        · have e1 : ((p.length : Int) ≤ (a : Int)) = True := eq_true h1
          have e1' : (p.length ≤ a) = True := eq_true (by omega)
          have hNo : Hid (¬ okR p ring) := fun h => by have := (h.2 _ hmem).2.1; omega
          obtain ⟨r0, r1, r2, r3, r4⟩ := HV.out.five
          obtain ⟨f0, f1, f2, f3, f4⟩ := HV.out.free5
          clear h0 h1 hmem
          go_wp2_with fail
          refine bodyPost_ret (v := .tuple #[(.agg #[.bool (QM (0)), .int .u64 (Q0 (0)), .int .u64 (Q1 (0)), .int .u64 (Q2 (0)), .int .u64 (Q3 (0))]), .int .i64 2]) (by rw [zero_wide]; simp [results, Try.results42, go_sem, r0, r1, r2, r3, r4]; done) rfl ⟨?_, ?_⟩
          · have hg := HG4.out
            refine bl_set (bl_set (bl_set (bl_set (bl_set HBw.out ?_ _) ?_ _) ?_ _) ?_ _) ?_ _ <;> (dsimp only; omega)
          · rw [if_neg hNo.out]
        · have e1 : ((p.length : Int) ≤ (a : Int)) = False := eq_false h1
          have e1' : (p.length ≤ a) = False := eq_false (by omega)
          have hap : a < p.length := by omega
          have e2 : ((a : Int) < (p.length : Int)) = True := eq_true (by omega)
          have e3 : (a < p.length) = True := eq_true hap
          have e4 : ((0 : Int) ≤ (a : Int)) = True := eq_true (by omega)
          obtain ⟨gp, op, rfl⟩ := HP.out.some (by omega)
          obtain ⟨q, hq⟩ : ∃ q, pget p a = q := ⟨_, rfl⟩
          obtain ⟨k5, k6⟩ := ptRow_at (HP.out.below HBw.out) hap hq
          have HQ := Lib.hid hq
          obtain ⟨r, hr⟩ : ∃ r, fitB q = r := ⟨_, rfl⟩
          have HF := Lib.hid (fits1 wr q 25 r hr)
          have HFR := Lib.hid hr
          clear hq hr h0 h1
          go_wp2_with fail
          (with_reducible refine HF.out.mono ?_); rintro e w2 ⟨rfl, hb2⟩
          have HBz := Lib.hid (bl_trans HB.out (bl_trans (bl_one wr (.cells #[.int .i64 q.x, .int .i64 q.y] 25)) hb2))
          clear hb2 HF k0 k5 k6 HBw HB HV
          have HBw := Lib.hid (bl_trans HB1.out HBz.out)
          cases r
          · have hNo : Hid (¬ okR p ring) := fun h => by
              have := (h.2 _ hmem).2.2
              rw [Int.toNat_natCast, HQ.out, HFR.out] at this
              cases this
            have HV := Lib.hid (HV4.out.below HBz.out)
            obtain ⟨r0, r1, r2, r3, r4⟩ := HV.out.five
            obtain ⟨f0, f1, f2, f3, f4⟩ := HV.out.free5
            clear hmem
            go_wp2_with fail
            refine bodyPost_ret (v := .tuple #[(.agg #[.bool (QM (0)), .int .u64 (Q0 (0)), .int .u64 (Q1 (0)), .int .u64 (Q2 (0)), .int .u64 (Q3 (0))]), .int .i64 2]) (by rw [zero_wide]; simp [results, Try.results42, go_sem, r0, r1, r2, r3, r4]; done) rfl ⟨?_, ?_⟩
            · have hg := HG4.out
              refine bl_set (bl_set (bl_set (bl_set (bl_set HBw.out ?_ _) ?_ _) ?_ _) ?_ _) ?_ _ <;> (dsimp only; omega)
            · rw [if_neg hNo.out]
          · go_wp2_with fail
            clear m1 m2 m3 m4
            refine ⟨⟨k + 1, hlt, by rw [Int.natCast_add]; rfl, fun i hi => ?_, HBz.out⟩, by simp [intOf]; omega⟩
            rw [List.take_succ_eq_append_getElem hlt, HX.out] at hi
            rcases List.mem_append.1 hi with h | h
            · exact HA.out i h
            · simp at h
              subst h
              exact ⟨by omega, by omega, by rw [Int.toNat_natCast, HQ.out]; exact HFR.out⟩
    · obtain rfl : k = ring.length := by omega
      have b2 : ((ring.length : Int) < (ring.length : Int)) = False := eq_false (by omega)
      have HOK : Hid (okR p ring) := ⟨by omega, by have := HA.out; rwa [List.take_length] at this⟩
      have HBw := Lib.hid (bl_trans HB1.out HB.out)
      have HOF := Lib.hid (fun W => ofQ 0 (by omega) (by omega) W)
      clear HA
      go_wp2_with fail
      (with_reducible refine (HOF.out _).mono ?_); rintro e w2 ⟨rfl, hb2⟩
      go_upto_region 10 with (fail)
      have HV8 := Lib.hid (var5_new w2 (.bool (QM 0)) (.int .u64 (Q0 0)) (.int .u64 (Q1 0)) (.int .u64 (Q2 0)) (.int .u64 (Q3 0)) 80 w2.heap.size rfl)
      have hb3 := bl_trans hb2 (bl_one w2 (.cells #[.bool (QM 0), .int .u64 (Q0 0), .int .u64 (Q1 0), .int .u64 (Q2 0), .int .u64 (Q3 0)] 80))
      have HBa := Lib.hid (bl_trans HB.out hb3)
      have HB3 := Lib.hid (bl_trans HB1.out HBa.out)
      have HR3 := Lib.hid (HR.out.below HB3.out)
      have HV4b := Lib.hid (HV4.out.below HBa.out)
      clear hb3 HBw HOF HBa HV4
      generalize w2.alloc (.cells #[.bool (QM 0), .int .u64 (Q0 0), .int .u64 (Q1 0), .int .u64 (Q2 0), .int .u64 (Q3 0)] 80) = W3 at *
      have hg8a : g4 < w2.heap.size := by have := HB.out.size; have := hb2.size; omega
      have hg8b : w2.heap.size < W3.heap.size := HV8.out.lt
      generalize w2.heap.size = g8 at *
      have HSL : Hid (Calls Try.prog 28 #[.slice (some ⟨W3.heap.size, 0, none⟩) 1 1] (W3.alloc (.cells #[.slice ar ring.length cr] 36)) fun e w' => ∃ v, e = .returned v ∧ Op 51 (W3.alloc (.cells #[.slice ar ring.length cr] 36)) v (segsF [ring]) w') :=
        rsg_l [ring] (some ⟨W3.heap.size, 0, none⟩) 1 _ (rowsAt_one W3 ar ring cr HR3.out hcr HN.out _) (by simp) (by simp [total]; omega)
      have HB4 := Lib.hid (bl_one W3 (.cells #[.slice ar ring.length cr] 36))
      go_wp2_with fail
      (with_reducible refine HSL.out.mono ?_); rintro e w4 ⟨v4, rfl, hO4⟩
      have hsf : segsF [ring] = ringSegs ring := by simp [segsF]
      rw [hsf] at hO4
      have HSM : Hid (∀ s ∈ ringSegs ring, s.x ∈ ring ∧ s.y ∈ ring) := fun s h => mem_ringSegs h
      have hSL := ringSegs_len ring
      have HAZ : Hid (stripTo p (ringSegs ring) (ringSegs ring).length = areaZ p ring) := by unfold stripTo areaZ; rw [List.take_length]; exact rfl
      generalize ringSegs ring = S at *
      have HB5 := Lib.hid (bl_trans HB4.out hO4.hb)
      obtain ⟨adS, cpS, rfl, -, hPS, -⟩ := hO4.slice
      have HSG := Lib.hid hPS
      replace HB3 := Lib.hid (bl_trans HB3.out HB5.out)
      replace HV4b := Lib.hid (HV4b.out.below HB5.out)
      replace HV8 := Lib.hid (HV8.out.below HB5.out)
      have HBD : Hid (∀ k, k ≤ S.length → BW (stripTo p S k)) := fun k hk => by
        have := stripTo_bd (p := p) (l := S) (fun s h => ⟨(HOK.out.2 _ (HSM.out s h).1).2.2, (HOK.out.2 _ (HSM.out s h).2).2.2⟩) k hk
        exact bw_small (by omega)
      have HNE : Hid (g8 ≠ g4) := (show g8 ≠ g4 by omega)
      have HG8 : Hid (w.heap.size ≤ g8) := (show w.heap.size ≤ g8 by have := HG4.out; omega)
      have HNS : Hid (∀ g o, adS = some ⟨g, o, none⟩ → g8 ≠ g) := fun g o e => by
        subst e
        have h1 := (hO4.own.lt g rfl).1
        simp at h1
        omega
      clear hPS hO4 HSL HB4 HB5 hsf HR3 b2 hg8a hg8b
      go_wp2_with fail
      go_loopw [49] (fun iv W => ∃ (k : Nat) (z : Int), k ≤ S.length ∧ iv = .int .i64 k ∧ z = stripTo p S k ∧ Var W g8 [.bool (QM (z)), .int .u64 (Q0 (z)), .int .u64 (Q1 (z)), .int .u64 (Q2 (z)), .int .u64 (Q3 (z))] ∧ Var W g4 [.bool false, .int .u64 0, .int .u64 0, .int .u64 0, .int .u64 0] ∧ PtRow W adS S ∧ Below w.heap.size w W) (fun iv _ => S.length - (intOf iv).toNat)
      case atStart => exact ⟨0, 0, Nat.zero_le _, rfl, rfl, HV8.out, HV4b.out, HSG.out, HB3.out⟩
      case round =>
        obtain ⟨k, z, hk, rfl, hz, hv8, hv4, hpS, hB⟩ := hrel
        clear HV8 HV4b HSG HB3
        have HV8 := Lib.hid hv8
        have HV4 := Lib.hid hv4
        have HSG := Lib.hid hpS
        have HB := Lib.hid hB
        have HZ := Lib.hid hz
        clear hz hv8 hv4 hpS hB
        by_cases hlt : k < S.length
        · have b2 : ((k : Int) < (S.length : Int)) = True := eq_true (by omega)
          have d2 : (k < S.length) = True := eq_true hlt
          have c2 : ((0 : Int) ≤ (k : Int)) = True := eq_true (by omega)
          obtain ⟨gS, oS, rfl⟩ := HSG.out.some (by omega)
          obtain ⟨s, hs⟩ : ∃ s, pget S k = s := ⟨_, rfl⟩
          obtain ⟨k0, k1⟩ := ptRow_at HSG.out hlt hs
          have hin := HSM.out s (by rw [← hs]; exact pget_mem hlt)
          have h1 := HOK.out.2 _ hin.1
          have h2 := HOK.out.2 _ hin.2
          obtain ⟨ia, hia⟩ := Int.eq_ofNat_of_zero_le h1.1
          obtain ⟨ib, hib⟩ := Int.eq_ofNat_of_zero_le h2.1
          rw [hia] at h1 k0
          rw [hib] at h2 k1
          rw [Int.toNat_natCast] at h1 h2
          have hal : ia < p.length := by omega
          have hbl : ib < p.length := by omega
          obtain ⟨gp, op, rfl⟩ := HP.out.some (by omega)
          obtain ⟨a, ha⟩ : ∃ a, pget p ia = a := ⟨_, rfl⟩
          obtain ⟨b, hb⟩ : ∃ b, pget p ib = b := ⟨_, rfl⟩
          obtain ⟨k5, k6⟩ := ptRow_at (HP.out.below HB.out) hal ha
          obtain ⟨k7, k8⟩ := ptRow_at (HP.out.below HB.out) hbl hb
          rw [ha] at h1
          rw [hb] at h2
          have fa := fit_bd h1.2.2
          have fb := fit_bd h2.2.2
          have HSTZ : Hid (z + (a.x - b.x) * (a.y + b.y) = stripTo p S (k + 1)) := by
            rw [stripTo_succ p hlt, ← HZ.out, hs]
            unfold stripZ
            rw [hia, hib, Int.toNat_natCast, Int.toNat_natCast, ha, hb]
            exact rfl
          have HX : Hid (-9223372036854775808 ≤ a.x - b.x ∧ a.x - b.x ≤ 9223372036854775807) := ⟨by omega, by omega⟩
          have HY : Hid (-9223372036854775808 ≤ a.y + b.y ∧ a.y + b.y ≤ 9223372036854775807) := ⟨by omega, by omega⟩
          have hmb := mul_bd (x := a.x - b.x) (y := a.y + b.y) (by omega) (by omega)
          have hbw : Hid (BW (a.x - b.x) ∧ BW (a.y + b.y) ∧ BW ((a.x - b.x) * (a.y + b.y))) := ⟨bw_small (by omega), bw_small (by omega), bw_small (by omega)⟩
          have hzz : Hid (BW z ∧ BW (z + (a.x - b.x) * (a.y + b.y))) := ⟨by rw [HZ.out]; exact HBD.out k hk, by rw [HSTZ.out]; exact HBD.out (k + 1) hlt⟩
          have wx : wrap64 (a.x - b.x) = a.x - b.x := by unfold wrap64; omega
          have wy : wrap64 (a.y + b.y) = a.y + b.y := by unfold wrap64; omega
          have wx2 : IntKind.i64.wrap (a.x - b.x) = a.x - b.x := IntWalk.i64_in _ (by omega)
          have wy2 : IntKind.i64.wrap (a.y + b.y) = a.y + b.y := IntWalk.i64_in _ (by omega)
          have HWX := Lib.hid (And.intro wx wx2)
          have HWY := Lib.hid (And.intro wy wy2)
          clear hs hin h1 h2 hia hib ha hb fa fb hmb wx wy wx2 wy2
          go_upto_region 13 with (fail)
          have hbo := bl_one wr (.cells #[.int .i64 (ia : Int), .int .i64 (ib : Int)] 51)
          have HV10 := Lib.hid (var2_new wr (.int .i64 (ia : Int)) (.int .i64 (ib : Int)) 51 wr.heap.size rfl)
          replace HV8 := Lib.hid (HV8.out.below hbo)
          replace HV4 := Lib.hid (HV4.out.below hbo)
          replace HSG := Lib.hid (HSG.out.below hbo)
          replace HB := Lib.hid (bl_trans HB.out hbo)
          replace k5 := (hbo.cell (cell_lt k5)).trans k5
          replace k6 := (hbo.cell (cell_lt k6)).trans k6
          replace k7 := (hbo.cell (cell_lt k7)).trans k7
          replace k8 := (hbo.cell (cell_lt k8)).trans k8
          clear hbo k0 k1
          generalize wr.alloc (.cells #[.int .i64 (ia : Int), .int .i64 (ib : Int)] 51) = W5 at *
          generalize wr.heap.size = g10 at *
          obtain ⟨v0, v1⟩ := HV10.out.two
          have c3 : ((0 : Int) ≤ (ia : Int)) = True := eq_true (by omega)
          have c4 : ((ia : Int) < (p.length : Int)) = True := eq_true (by omega)
          have c5 : (ia < p.length) = True := eq_true hal
          have c6 : ((0 : Int) ≤ (ib : Int)) = True := eq_true (by omega)
          have c7 : ((ib : Int) < (p.length : Int)) = True := eq_true (by omega)
          have c8 : (ib < p.length) = True := eq_true hbl
          have l1 := HV10.out.lt
          have l2 := cell_lt k5
          have HG0 : Hid (Grew W5 0 W5) := ⟨Below.refl _ _, Nat.le_refl _⟩
          go_cut [11, 12] (fun x y W => ∃ g11 g12, x = .pointer (some ⟨g11, 0, none⟩) ∧ y = .pointer (some ⟨g12, 0, none⟩) ∧ (fun W => Var W (g11) [.int .i64 a.x, .int .i64 a.y] ∧ Var W (g12) [.int .i64 b.x, .int .i64 b.y] ∧ Var W (g8) [.bool (QM (z)), .int .u64 (Q0 (z)), .int .u64 (Q1 (z)), .int .u64 (Q2 (z)), .int .u64 (Q3 (z))] ∧ Var W (g4) [.bool false, .int .u64 0, .int .u64 0, .int .u64 0, .int .u64 0] ∧ Grew W5 0 W) W)
          case first =>
            have HALL : Hid (Var W5 g8 [.bool (QM (z)), .int .u64 (Q0 (z)), .int .u64 (Q1 (z)), .int .u64 (Q2 (z)), .int .u64 (Q3 (z))] ∧ Var W5 g4 [.bool false, .int .u64 0, .int .u64 0, .int .u64 0, .int .u64 0] ∧ Grew W5 0 W5) := ⟨HV8.out, HV4.out, HG0.out⟩
            clear HV8 HV4 HG0 HV10 HX HY hbw hzz HWX HWY HSTZ HBD HZ HSM HOK HAZ
            go_region
            all_goals
              go_wp2_with fail
              go_meet
              case rel => first
                | exact ⟨_, _, rfl, rfl, ⟨((var2_new _ _ _ _ _ rfl).below (bl_one _ _)).below (bel_drew _), (var2_new _ _ _ _ _ (by simp)).below (bel_drew _), (HALL.out.1.below (bl_alloc (bl_one _ _) _)).below (bel_drew _), (HALL.out.2.1.below (bl_alloc (bl_one _ _) _)).below (bel_drew _), (HALL.out.2.2.below (bl_alloc (bl_one _ _) _)).below (bel_drew _)⟩⟩
                | exact ⟨_, _, rfl, rfl, ⟨(var2_new _ _ _ _ _ (by simp)).below (bel_drew _), ((var2_new _ _ _ _ _ rfl).below (bl_one _ _)).below (bel_drew _), (HALL.out.1.below (bl_alloc (bl_one _ _) _)).below (bel_drew _), (HALL.out.2.1.below (bl_alloc (bl_one _ _) _)).below (bel_drew _), (HALL.out.2.2.below (bl_alloc (bl_one _ _) _)).below (bel_drew _)⟩⟩
          case rest =>
          obtain ⟨g11, g12, rfl, rfl, hS⟩ := hcut
          clear HV8 HV4 HG0 HV10 k5 k6 k7 k8 v0 v1 c3 c4 c5 c6 c7 c8 l1 l2
          have HS0 := Lib.hid hS
          clear hS
          obtain ⟨wx, wx2⟩ := HWX.out
          obtain ⟨wy, wy2⟩ := HWY.out
          go_upto_region 14 with (fail)
          go_cut [13] (fun pv W => ∃ g, pv = .pointer (some ⟨g, 0, none⟩) ∧ Var W g [.bool (QM ((a.x - b.x) * (a.y + b.y))), .int .u64 (Q0 ((a.x - b.x) * (a.y + b.y))), .int .u64 (Q1 ((a.x - b.x) * (a.y + b.y))), .int .u64 (Q2 ((a.x - b.x) * (a.y + b.y))), .int .u64 (Q3 ((a.x - b.x) * (a.y + b.y)))] ∧ (fun W => Var W (g11) [.int .i64 a.x, .int .i64 a.y] ∧ Var W (g12) [.int .i64 b.x, .int .i64 b.y] ∧ Var W (g8) [.bool (QM (z)), .int .u64 (Q0 (z)), .int .u64 (Q1 (z)), .int .u64 (Q2 (z)), .int .u64 (Q3 (z))] ∧ Var W (g4) [.bool false, .int .u64 0, .int .u64 0, .int .u64 0, .int .u64 0] ∧ Grew W5 0 W) W)
          case first =>
            clear HBD HZ HSM HOK HAZ HSTZ hzz HSG HB
            refine wp_region_held_drew (S := fun W => Var W (g11) [.int .i64 a.x, .int .i64 a.y] ∧ Var W (g12) [.int .i64 b.x, .int .i64 b.y] ∧ Var W (g8) [.bool (QM (z)), .int .u64 (Q0 (z)), .int .u64 (Q1 (z)), .int .u64 (Q2 (z)), .int .u64 (Q3 (z))] ∧ Var W (g4) [.bool false, .int .u64 0, .int .u64 0, .int .u64 0, .int .u64 0] ∧ Grew W5 0 W) (by kernel_rfl) ?_ (fun hHeld => ?_)
            · exact ⟨HS0.out.1.below (bel_drew _), HS0.out.2.1.below (bel_drew _), HS0.out.2.2.1.below (bel_drew _), HS0.out.2.2.2.1.below (bel_drew _), HS0.out.2.2.2.2.below (bel_drew _)⟩
            revert hHeld
            generalize World.drew _ = W1
            intro hHeld 
            refine wpAnyH_take (i := 0) (v := ?_) rfl (by kernel_rfl) (by kernel_rfl) (by kernel_rfl) (fun _ _ _ h => h) (Or.inl ⟨by rfl, ?_⟩) (by assumption) ?_
            rotate_left
            · intro Wq hSw
              clear hSw
              go_simp
              all_goals (with_reducible rfl)
            try simp only [Act.put, List.getElem_toArray, List.getElem_cons_zero, List.setIfInBounds_toArray, List.set_cons_zero, List.set_cons_succ]
            refine wpAnyH_take (i := 1) (v := ?_) rfl (by kernel_rfl) (by kernel_rfl) (by kernel_rfl) (fun _ _ _ h => h) (Or.inl ⟨by rfl, ?_⟩) (by assumption) ?_
            rotate_left
            · intro Wq hSw
              obtain ⟨k0, k1⟩ := (id hSw).1.two
              clear hSw
              go_simp
              all_goals (with_reducible rfl)
            try simp only [Act.put, List.getElem_toArray, List.getElem_cons_succ, List.getElem_cons_zero, List.setIfInBounds_toArray, List.set_cons_zero, List.set_cons_succ]
            refine wpAnyH_take (i := 2) (v := ?_) rfl (by kernel_rfl) (by kernel_rfl) (by kernel_rfl) (fun _ _ _ h => h) (Or.inl ⟨by rfl, ?_⟩) (by assumption) ?_
            rotate_left
            · intro Wq hSw
              clear hSw
              go_simp
              all_goals (with_reducible rfl)
            try simp only [Act.put, List.getElem_toArray, List.getElem_cons_succ, List.getElem_cons_zero, List.setIfInBounds_toArray, List.set_cons_zero, List.set_cons_succ]
            refine wpAnyH_take (i := 3) (v := ?_) rfl (by kernel_rfl) (by kernel_rfl) (by kernel_rfl) (fun _ _ _ h => h) (Or.inl ⟨by rfl, ?_⟩) (by assumption) ?_
            rotate_left
            · intro Wq hSw
              obtain ⟨k0, k1⟩ := (id hSw).2.1.two
              clear hSw
              go_simp
              all_goals (with_reducible rfl)
            try simp only [Act.put, List.getElem_toArray, List.getElem_cons_succ, List.getElem_cons_zero, List.setIfInBounds_toArray, List.set_cons_zero, List.set_cons_succ]
            refine wpAnyH_take (i := 4) (v := ?_) rfl (by kernel_rfl) (by kernel_rfl) (by kernel_rfl) (fun _ _ _ h => h) (Or.inl ⟨by rfl, ?_⟩) (by assumption) ?_
            rotate_left
            · intro Wq hSw
              clear hSw
              go_simp
              all_goals (with_reducible rfl)
            try simp only [Act.put, List.getElem_toArray, List.getElem_cons_succ, List.getElem_cons_zero, List.setIfInBounds_toArray, List.set_cons_zero, List.set_cons_succ]
            refine wpAnyH_take (i := 6) (v := ?_) rfl (by kernel_rfl) (by kernel_rfl) (by kernel_rfl) (fun _ _ _ h => h) (Or.inl ⟨by rfl, ?_⟩) (by assumption) ?_
            rotate_left
            · intro Wq hSw
              clear hSw
              go_simp
              all_goals (with_reducible rfl)
            try simp only [Act.put, List.getElem_toArray, List.getElem_cons_succ, List.getElem_cons_zero, List.setIfInBounds_toArray, List.set_cons_zero, List.set_cons_succ]
            refine wpAnyH_take (i := 7) (v := ?_) rfl (by kernel_rfl) (by kernel_rfl) (by kernel_rfl) (fun _ _ _ h => h) (Or.inl ⟨by rfl, ?_⟩) (by assumption) ?_
            rotate_left
            · intro Wq hSw
              obtain ⟨k0, k1⟩ := (id hSw).1.two
              clear hSw
              go_simp
              all_goals (with_reducible rfl)
            try simp only [Act.put, List.getElem_toArray, List.getElem_cons_succ, List.getElem_cons_zero, List.setIfInBounds_toArray, List.set_cons_zero, List.set_cons_succ]
            refine wpAnyH_take (i := 8) (v := ?_) rfl (by kernel_rfl) (by kernel_rfl) (by kernel_rfl) (fun _ _ _ h => h) (Or.inl ⟨by rfl, ?_⟩) (by assumption) ?_
            rotate_left
            · intro Wq hSw
              clear hSw
              go_simp
              all_goals (with_reducible rfl)
            try simp only [Act.put, List.getElem_toArray, List.getElem_cons_succ, List.getElem_cons_zero, List.setIfInBounds_toArray, List.set_cons_zero, List.set_cons_succ]
            refine wpAnyH_take (i := 9) (v := ?_) rfl (by kernel_rfl) (by kernel_rfl) (by kernel_rfl) (fun _ _ _ h => h) (Or.inl ⟨by rfl, ?_⟩) (by assumption) ?_
            rotate_left
            · intro Wq hSw
              obtain ⟨k0, k1⟩ := (id hSw).2.1.two
              clear hSw
              go_simp
              all_goals (with_reducible rfl)
            try simp only [Act.put, List.getElem_toArray, List.getElem_cons_succ, List.getElem_cons_zero, List.setIfInBounds_toArray, List.set_cons_zero, List.set_cons_succ]
            refine wpAnyH_take (i := 10) (v := ?_) rfl (by kernel_rfl) (by kernel_rfl) (by kernel_rfl) (fun _ _ _ h => h) (Or.inl ⟨by rfl, ?_⟩) (by assumption) ?_
            rotate_left
            · intro Wq hSw
              clear hSw
              go_simp
              all_goals (with_reducible rfl)
            try simp only [Act.put, List.getElem_toArray, List.getElem_cons_succ, List.getElem_cons_zero, List.setIfInBounds_toArray, List.set_cons_zero, List.set_cons_succ]
            refine wpAnyH_ready (rs := [5, 17]) (by kernel_rfl) (by simp) ?_
            refine (AllReadyH.cons rfl (fun K hK => ?_) (AllReadyH.cons rfl (fun K hK => ?_) AllReadyH.nil))
            · rw [if_pos (by rfl)]
              go_simp
              go_at_call 59
              (with_reducible refine (ofQ (a.x - b.x) HX.out.1 HX.out.2 _).mono ?_); rintro e w1 ⟨rfl, hb1⟩
              go_wp2_with fail
              refine hK.out _ _ ?_ (fun hHeld2 => ?_)
              · exact ⟨(id hHeld).1.below hb1, (id hHeld).2.1.below hb1, (id hHeld).2.2.1.below hb1, (id hHeld).2.2.2.1.below hb1, (id hHeld).2.2.2.2.below hb1⟩
              clear hK K hHeld hb1
              have hHeld := hHeld2
              clear hHeld2
              try simp only [Act.put, List.getElem_toArray, List.getElem_cons_succ, List.getElem_cons_zero, List.setIfInBounds_toArray, List.set_cons_zero, List.set_cons_succ]
              refine wpAnyH_ready (rs := [11, 17]) (by kernel_rfl) (by simp) ?_
              refine (AllReadyH.cons rfl (fun K hK => ?_) (AllReadyH.cons rfl (fun K hK => ?_) AllReadyH.nil))
              · rw [if_pos (by rfl)]
                go_simp
                go_at_call 59
                (with_reducible refine (ofQ (a.y + b.y) HY.out.1 HY.out.2 _).mono ?_); rintro e w1 ⟨rfl, hb1⟩
                go_wp2_with fail
                refine hK.out _ _ ?_ (fun hHeld2 => ?_)
                · exact ⟨(id hHeld).1.below hb1, (id hHeld).2.1.below hb1, (id hHeld).2.2.1.below hb1, (id hHeld).2.2.2.1.below hb1, (id hHeld).2.2.2.2.below hb1⟩
                clear hK K hHeld hb1
                have hHeld := hHeld2
                clear hHeld2
                try simp only [Act.put, List.getElem_toArray, List.getElem_cons_succ, List.getElem_cons_zero, List.setIfInBounds_toArray, List.set_cons_zero, List.set_cons_succ]
                refine wpAnyH_ready (rs := [12, 17]) (by kernel_rfl) (by simp) ?_
                refine (AllReadyH.cons rfl (fun K hK => ?_) (AllReadyH.cons rfl (fun K hK => ?_) AllReadyH.nil))
                · rw [if_pos (by rfl)]
                  go_simp
                  refine hK.out _ _ ?_ (fun hHeld2 => ?_)
                  · exact ⟨(id hHeld).1.below (bl_one _ _), (id hHeld).2.1.below (bl_one _ _), (id hHeld).2.2.1.below (bl_one _ _), (id hHeld).2.2.2.1.below (bl_one _ _), (id hHeld).2.2.2.2.below (bl_one _ _)⟩
                  have HL := hL_of (id hHeld).2.2.2.2 (fun W => wides2_wd8 W (a.x - b.x) (a.y + b.y) 80)
                  clear hK K hHeld
                  have hHeld := hHeld2
                  clear hHeld2
                  try simp only [Act.put, List.getElem_toArray, List.getElem_cons_succ, List.getElem_cons_zero, List.setIfInBounds_toArray, List.set_cons_zero, List.set_cons_succ]
                  revert HL
                  revert hHeld
                  generalize World.alloc _ _ = W2
                  intro hHeld HL
                  refine wpAnyH_ready (rs := [13, 17]) (by kernel_rfl) (by simp) ?_
                  refine (AllReadyH.cons rfl (fun K hK => ?_) (AllReadyH.cons rfl (fun K hK => ?_) AllReadyH.nil))
                  · rw [if_pos (by rfl)]
                    go_simp
                    go_at_call 60
                    (with_reducible refine (mulQ (a.x - b.x) (a.y + b.y) hbw.out.1 hbw.out.2.1 hbw.out.2.2 _ _ _ HL.out).mono ?_); rintro e w1 ⟨rfl, hb1⟩
                    go_wp2_with fail
                    refine hK.out _ _ ?_ (fun hHeld2 => ?_)
                    · exact ⟨(id hHeld).1.below hb1, (id hHeld).2.1.below hb1, (id hHeld).2.2.1.below hb1, (id hHeld).2.2.2.1.below hb1, (id hHeld).2.2.2.2.below hb1⟩
                    replace HL := Lib.hid (HL.out.below hb1)
                    clear hK K hHeld hb1
                    have hHeld := hHeld2
                    clear hHeld2
                    try simp only [Act.put, List.getElem_toArray, List.getElem_cons_succ, List.getElem_cons_zero, List.setIfInBounds_toArray, List.set_cons_zero, List.set_cons_succ]
                    refine wpAnyH_take (i := 14) (v := ?_) rfl (by kernel_rfl) (by kernel_rfl) (by kernel_rfl) (fun _ _ _ h => h) (Or.inl ⟨by rfl, ?_⟩) (by assumption) ?_
                    rotate_left
                    · intro Wq hSw
                      clear hSw
                      go_simp
                      all_goals (with_reducible rfl)
                    try simp only [Act.put, List.getElem_toArray, List.getElem_cons_succ, List.getElem_cons_zero, List.setIfInBounds_toArray, List.set_cons_zero, List.set_cons_succ]
                    refine wpAnyH_take (i := 15) (v := ?_) rfl (by kernel_rfl) (by kernel_rfl) (by kernel_rfl) (fun _ _ _ h => h) (Or.inl ⟨by rfl, ?_⟩) (by assumption) ?_
                    rotate_left
                    · intro Wq hSw
                      clear hSw
                      go_simp
                      all_goals (with_reducible rfl)
                    try simp only [Act.put, List.getElem_toArray, List.getElem_cons_succ, List.getElem_cons_zero, List.setIfInBounds_toArray, List.set_cons_zero, List.set_cons_succ]
                    refine wpAnyH_take (i := 16) (v := ?_) rfl (by kernel_rfl) (by kernel_rfl) (by kernel_rfl) (fun _ _ _ h => h) (Or.inl ⟨by rfl, ?_⟩) (by assumption) ?_
                    rotate_left
                    · intro Wq hSw
                      clear hSw
                      go_simp
                      all_goals (with_reducible rfl)
                    try simp only [Act.put, List.getElem_toArray, List.getElem_cons_succ, List.getElem_cons_zero, List.setIfInBounds_toArray, List.set_cons_zero, List.set_cons_succ]
                    refine wpAnyH_ready (rs := [17]) (by kernel_rfl) (by simp) ?_
                    refine (AllReadyH.cons rfl (fun K hK => ?_) AllReadyH.nil)
                    rw [if_pos (by rfl)]
                    go_simp
                    refine hK.out _ _ ?_ (fun hHeld2 => ?_)
                    · exact ⟨(id hHeld).1.below (bl_one _ _), (id hHeld).2.1.below (bl_one _ _), (id hHeld).2.2.1.below (bl_one _ _), (id hHeld).2.2.2.1.below (bl_one _ _), (id hHeld).2.2.2.2.below (bl_one _ _)⟩
                    replace HL := Lib.hid (HL.out.below (al_of (id hHeld2).2.2.2.2 (bl_one _ _)))
                    have hge := (id hHeld).2.2.2.2.sz
                    have hlt0 := (id hHeld).1.lt
                    have hlt1 := (id hHeld).2.1.lt
                    have hlt2 := (id hHeld).2.2.1.lt
                    have hlt3 := (id hHeld).2.2.2.1.lt
                    have HN := Lib.hid ((id hHeld).2.2.2.2.var5 (.bool false) (.int .u64 0) (.int .u64 0) (.int .u64 0) (.int .u64 0) 80)
                    clear hK K hHeld
                    have hHeld := hHeld2
                    clear hHeld2
                    try simp only [Act.put, List.getElem_toArray, List.getElem_cons_succ, List.getElem_cons_zero, List.setIfInBounds_toArray, List.set_cons_zero, List.set_cons_succ]
                    revert HL
                    revert HN
                    revert hHeld
                    generalize World.alloc _ _ = W2
                    intro hHeld HN HL
                    refine wpAnyH_ready (rs := [18]) (by kernel_rfl) (by simp) ?_
                    refine (AllReadyH.cons rfl (fun K hK => ?_) AllReadyH.nil)
                    rw [if_pos (by rfl)]
                    obtain ⟨k0, k1, k2, k3, k4⟩ := HN.out.five
                    obtain ⟨f0, f1, f2, f3, f4⟩ := HN.out.free5
                    go_simp
                    refine hK.out _ _ ?_ (fun hHeld2 => ?_)
                    · exact ⟨((((((id hHeld).1.far (by dsimp only; omega) _).far (by dsimp only; omega) _).far (by dsimp only; omega) _).far (by dsimp only; omega) _).far (by dsimp only; omega) _), ((((((id hHeld).2.1.far (by dsimp only; omega) _).far (by dsimp only; omega) _).far (by dsimp only; omega) _).far (by dsimp only; omega) _).far (by dsimp only; omega) _), ((((((id hHeld).2.2.1.far (by dsimp only; omega) _).far (by dsimp only; omega) _).far (by dsimp only; omega) _).far (by dsimp only; omega) _).far (by dsimp only; omega) _), ((((((id hHeld).2.2.2.1.far (by dsimp only; omega) _).far (by dsimp only; omega) _).far (by dsimp only; omega) _).far (by dsimp only; omega) _).far (by dsimp only; omega) _), ((((((id hHeld).2.2.2.2.set (by dsimp only; omega) _).set (by dsimp only; omega) _).set (by dsimp only; omega) _).set (by dsimp only; omega) _).set (by dsimp only; omega) _)⟩
                    have VN := Lib.hid (HN.out.set5 (.bool (QM ((a.x - b.x) * (a.y + b.y)))) (.int .u64 (Q0 ((a.x - b.x) * (a.y + b.y)))) (.int .u64 (Q1 ((a.x - b.x) * (a.y + b.y)))) (.int .u64 (Q2 ((a.x - b.x) * (a.y + b.y)))) (.int .u64 (Q3 ((a.x - b.x) * (a.y + b.y)))))
                    clear HL
                    clear hK K hHeld HN k0 k1 k2 k3 k4 f0 f1 f2 f3 f4
                    have hHeld := hHeld2
                    clear hHeld2
                    try simp only [Act.put, List.getElem_toArray, List.getElem_cons_succ, List.getElem_cons_zero, List.setIfInBounds_toArray, List.set_cons_zero, List.set_cons_succ]
                    refine wpAnyH_take (i := 19) (v := ?_) rfl (by kernel_rfl) (by kernel_rfl) (by kernel_rfl) (fun _ _ _ h => h) (Or.inl ⟨by rfl, ?_⟩) (by assumption) ?_
                    rotate_left
                    · intro Wq hSw
                      clear hSw
                      go_simp
                      all_goals (with_reducible rfl)
                    try simp only [Act.put, List.getElem_toArray, List.getElem_cons_succ, List.getElem_cons_zero, List.setIfInBounds_toArray, List.set_cons_zero, List.set_cons_succ]
                    refine wpAnyH_done (by kernel_rfl) ?_ _
                    go_wp2_with fail
                    go_meet
                    case rel => exact ⟨_, rfl, VN.out, id hHeld⟩
                  · rw [if_pos (by rfl)]
                    go_simp
                    refine hK.out _ _ ?_ (fun hHeld2 => ?_)
                    · exact ⟨(id hHeld).1.below (bl_one _ _), (id hHeld).2.1.below (bl_one _ _), (id hHeld).2.2.1.below (bl_one _ _), (id hHeld).2.2.2.1.below (bl_one _ _), (id hHeld).2.2.2.2.below (bl_one _ _)⟩
                    replace HL := Lib.hid (HL.out.below (al_of (id hHeld2).2.2.2.2 (bl_one _ _)))
                    have hge := (id hHeld).2.2.2.2.sz
                    have hlt0 := (id hHeld).1.lt
                    have hlt1 := (id hHeld).2.1.lt
                    have hlt2 := (id hHeld).2.2.1.lt
                    have hlt3 := (id hHeld).2.2.2.1.lt
                    have HN := Lib.hid ((id hHeld).2.2.2.2.var5 (.bool false) (.int .u64 0) (.int .u64 0) (.int .u64 0) (.int .u64 0) 80)
                    clear hK K hHeld
                    have hHeld := hHeld2
                    clear hHeld2
                    try simp only [Act.put, List.getElem_toArray, List.getElem_cons_succ, List.getElem_cons_zero, List.setIfInBounds_toArray, List.set_cons_zero, List.set_cons_succ]
                    revert HL
                    revert HN
                    revert hHeld
                    generalize World.alloc _ _ = W2
                    intro hHeld HN HL
                    refine wpAnyH_ready (rs := [13]) (by kernel_rfl) (by simp) ?_
                    refine (AllReadyH.cons rfl (fun K hK => ?_) AllReadyH.nil)
                    rw [if_pos (by rfl)]
                    go_simp
                    go_at_call 60
                    (with_reducible refine (mulQ (a.x - b.x) (a.y + b.y) hbw.out.1 hbw.out.2.1 hbw.out.2.2 _ _ _ HL.out).mono ?_); rintro e w1 ⟨rfl, hb1⟩
                    go_wp2_with fail
                    refine hK.out _ _ ?_ (fun hHeld2 => ?_)
                    · exact ⟨(id hHeld).1.below hb1, (id hHeld).2.1.below hb1, (id hHeld).2.2.1.below hb1, (id hHeld).2.2.2.1.below hb1, (id hHeld).2.2.2.2.below hb1⟩
                    replace HL := Lib.hid (HL.out.below hb1)
                    replace HN := Lib.hid (HN.out.below hb1)
                    clear hK K hHeld hb1
                    have hHeld := hHeld2
                    clear hHeld2
                    try simp only [Act.put, List.getElem_toArray, List.getElem_cons_succ, List.getElem_cons_zero, List.setIfInBounds_toArray, List.set_cons_zero, List.set_cons_succ]
                    refine wpAnyH_take (i := 14) (v := ?_) rfl (by kernel_rfl) (by kernel_rfl) (by kernel_rfl) (fun _ _ _ h => h) (Or.inl ⟨by rfl, ?_⟩) (by assumption) ?_
                    rotate_left
                    · intro Wq hSw
                      clear hSw
                      go_simp
                      all_goals (with_reducible rfl)
                    try simp only [Act.put, List.getElem_toArray, List.getElem_cons_succ, List.getElem_cons_zero, List.setIfInBounds_toArray, List.set_cons_zero, List.set_cons_succ]
                    refine wpAnyH_take (i := 15) (v := ?_) rfl (by kernel_rfl) (by kernel_rfl) (by kernel_rfl) (fun _ _ _ h => h) (Or.inl ⟨by rfl, ?_⟩) (by assumption) ?_
                    rotate_left
                    · intro Wq hSw
                      clear hSw
                      go_simp
                      all_goals (with_reducible rfl)
                    try simp only [Act.put, List.getElem_toArray, List.getElem_cons_succ, List.getElem_cons_zero, List.setIfInBounds_toArray, List.set_cons_zero, List.set_cons_succ]
                    refine wpAnyH_take (i := 16) (v := ?_) rfl (by kernel_rfl) (by kernel_rfl) (by kernel_rfl) (fun _ _ _ h => h) (Or.inl ⟨by rfl, ?_⟩) (by assumption) ?_
                    rotate_left
                    · intro Wq hSw
                      clear hSw
                      go_simp
                      all_goals (with_reducible rfl)
                    try simp only [Act.put, List.getElem_toArray, List.getElem_cons_succ, List.getElem_cons_zero, List.setIfInBounds_toArray, List.set_cons_zero, List.set_cons_succ]
                    refine wpAnyH_ready (rs := [18]) (by kernel_rfl) (by simp) ?_
                    refine (AllReadyH.cons rfl (fun K hK => ?_) AllReadyH.nil)
                    rw [if_pos (by rfl)]
                    obtain ⟨k0, k1, k2, k3, k4⟩ := HN.out.five
                    obtain ⟨f0, f1, f2, f3, f4⟩ := HN.out.free5
                    go_simp
                    refine hK.out _ _ ?_ (fun hHeld2 => ?_)
                    · exact ⟨((((((id hHeld).1.far (by dsimp only; omega) _).far (by dsimp only; omega) _).far (by dsimp only; omega) _).far (by dsimp only; omega) _).far (by dsimp only; omega) _), ((((((id hHeld).2.1.far (by dsimp only; omega) _).far (by dsimp only; omega) _).far (by dsimp only; omega) _).far (by dsimp only; omega) _).far (by dsimp only; omega) _), ((((((id hHeld).2.2.1.far (by dsimp only; omega) _).far (by dsimp only; omega) _).far (by dsimp only; omega) _).far (by dsimp only; omega) _).far (by dsimp only; omega) _), ((((((id hHeld).2.2.2.1.far (by dsimp only; omega) _).far (by dsimp only; omega) _).far (by dsimp only; omega) _).far (by dsimp only; omega) _).far (by dsimp only; omega) _), ((((((id hHeld).2.2.2.2.set (by dsimp only; omega) _).set (by dsimp only; omega) _).set (by dsimp only; omega) _).set (by dsimp only; omega) _).set (by dsimp only; omega) _)⟩
                    have VN := Lib.hid (HN.out.set5 (.bool (QM ((a.x - b.x) * (a.y + b.y)))) (.int .u64 (Q0 ((a.x - b.x) * (a.y + b.y)))) (.int .u64 (Q1 ((a.x - b.x) * (a.y + b.y)))) (.int .u64 (Q2 ((a.x - b.x) * (a.y + b.y)))) (.int .u64 (Q3 ((a.x - b.x) * (a.y + b.y)))))
                    clear HL
                    clear hK K hHeld HN k0 k1 k2 k3 k4 f0 f1 f2 f3 f4
                    have hHeld := hHeld2
                    clear hHeld2
                    try simp only [Act.put, List.getElem_toArray, List.getElem_cons_succ, List.getElem_cons_zero, List.setIfInBounds_toArray, List.set_cons_zero, List.set_cons_succ]
                    refine wpAnyH_take (i := 19) (v := ?_) rfl (by kernel_rfl) (by kernel_rfl) (by kernel_rfl) (fun _ _ _ h => h) (Or.inl ⟨by rfl, ?_⟩) (by assumption) ?_
                    rotate_left
                    · intro Wq hSw
                      clear hSw
                      go_simp
                      all_goals (with_reducible rfl)
                    try simp only [Act.put, List.getElem_toArray, List.getElem_cons_succ, List.getElem_cons_zero, List.setIfInBounds_toArray, List.set_cons_zero, List.set_cons_succ]
                    refine wpAnyH_done (by kernel_rfl) ?_ _
                    go_wp2_with fail
                    go_meet
                    case rel => exact ⟨_, rfl, VN.out, id hHeld⟩
                · rw [if_pos (by rfl)]
                  go_simp
                  refine hK.out _ _ ?_ (fun hHeld2 => ?_)
                  · exact ⟨(id hHeld).1.below (bl_one _ _), (id hHeld).2.1.below (bl_one _ _), (id hHeld).2.2.1.below (bl_one _ _), (id hHeld).2.2.2.1.below (bl_one _ _), (id hHeld).2.2.2.2.below (bl_one _ _)⟩
                  have hge := (id hHeld).2.2.2.2.sz
                  have hlt0 := (id hHeld).1.lt
                  have hlt1 := (id hHeld).2.1.lt
                  have hlt2 := (id hHeld).2.2.1.lt
                  have hlt3 := (id hHeld).2.2.2.1.lt
                  have HN := Lib.hid ((id hHeld).2.2.2.2.var5 (.bool false) (.int .u64 0) (.int .u64 0) (.int .u64 0) (.int .u64 0) 80)
                  clear hK K hHeld
                  have hHeld := hHeld2
                  clear hHeld2
                  try simp only [Act.put, List.getElem_toArray, List.getElem_cons_succ, List.getElem_cons_zero, List.setIfInBounds_toArray, List.set_cons_zero, List.set_cons_succ]
                  revert HN
                  revert hHeld
                  generalize World.alloc _ _ = W2
                  intro hHeld HN
                  refine wpAnyH_ready (rs := [12]) (by kernel_rfl) (by simp) ?_
                  refine (AllReadyH.cons rfl (fun K hK => ?_) AllReadyH.nil)
                  rw [if_pos (by rfl)]
                  go_simp
                  refine hK.out _ _ ?_ (fun hHeld2 => ?_)
                  · exact ⟨(id hHeld).1.below (bl_one _ _), (id hHeld).2.1.below (bl_one _ _), (id hHeld).2.2.1.below (bl_one _ _), (id hHeld).2.2.2.1.below (bl_one _ _), (id hHeld).2.2.2.2.below (bl_one _ _)⟩
                  replace HN := Lib.hid (HN.out.below (al_of (id hHeld2).2.2.2.2 (bl_one _ _)))
                  have HL := hL_of (id hHeld).2.2.2.2 (fun W => wides2_wd8 W (a.x - b.x) (a.y + b.y) 80)
                  clear hK K hHeld
                  have hHeld := hHeld2
                  clear hHeld2
                  try simp only [Act.put, List.getElem_toArray, List.getElem_cons_succ, List.getElem_cons_zero, List.setIfInBounds_toArray, List.set_cons_zero, List.set_cons_succ]
                  revert HN
                  revert HL
                  revert hHeld
                  generalize World.alloc _ _ = W2
                  intro hHeld HL HN
                  refine wpAnyH_ready (rs := [13]) (by kernel_rfl) (by simp) ?_
                  refine (AllReadyH.cons rfl (fun K hK => ?_) AllReadyH.nil)
                  rw [if_pos (by rfl)]
                  go_simp
                  go_at_call 60
                  (with_reducible refine (mulQ (a.x - b.x) (a.y + b.y) hbw.out.1 hbw.out.2.1 hbw.out.2.2 _ _ _ HL.out).mono ?_); rintro e w1 ⟨rfl, hb1⟩
                  go_wp2_with fail
                  refine hK.out _ _ ?_ (fun hHeld2 => ?_)
                  · exact ⟨(id hHeld).1.below hb1, (id hHeld).2.1.below hb1, (id hHeld).2.2.1.below hb1, (id hHeld).2.2.2.1.below hb1, (id hHeld).2.2.2.2.below hb1⟩
                  replace HN := Lib.hid (HN.out.below hb1)
                  replace HL := Lib.hid (HL.out.below hb1)
                  clear hK K hHeld hb1
                  have hHeld := hHeld2
                  clear hHeld2
                  try simp only [Act.put, List.getElem_toArray, List.getElem_cons_succ, List.getElem_cons_zero, List.setIfInBounds_toArray, List.set_cons_zero, List.set_cons_succ]
                  refine wpAnyH_take (i := 14) (v := ?_) rfl (by kernel_rfl) (by kernel_rfl) (by kernel_rfl) (fun _ _ _ h => h) (Or.inl ⟨by rfl, ?_⟩) (by assumption) ?_
                  rotate_left
                  · intro Wq hSw
                    clear hSw
                    go_simp
                    all_goals (with_reducible rfl)
                  try simp only [Act.put, List.getElem_toArray, List.getElem_cons_succ, List.getElem_cons_zero, List.setIfInBounds_toArray, List.set_cons_zero, List.set_cons_succ]
                  refine wpAnyH_take (i := 15) (v := ?_) rfl (by kernel_rfl) (by kernel_rfl) (by kernel_rfl) (fun _ _ _ h => h) (Or.inl ⟨by rfl, ?_⟩) (by assumption) ?_
                  rotate_left
                  · intro Wq hSw
                    clear hSw
                    go_simp
                    all_goals (with_reducible rfl)
                  try simp only [Act.put, List.getElem_toArray, List.getElem_cons_succ, List.getElem_cons_zero, List.setIfInBounds_toArray, List.set_cons_zero, List.set_cons_succ]
                  refine wpAnyH_take (i := 16) (v := ?_) rfl (by kernel_rfl) (by kernel_rfl) (by kernel_rfl) (fun _ _ _ h => h) (Or.inl ⟨by rfl, ?_⟩) (by assumption) ?_
                  rotate_left
                  · intro Wq hSw
                    clear hSw
                    go_simp
                    all_goals (with_reducible rfl)
                  try simp only [Act.put, List.getElem_toArray, List.getElem_cons_succ, List.getElem_cons_zero, List.setIfInBounds_toArray, List.set_cons_zero, List.set_cons_succ]
                  refine wpAnyH_ready (rs := [18]) (by kernel_rfl) (by simp) ?_
                  refine (AllReadyH.cons rfl (fun K hK => ?_) AllReadyH.nil)
                  rw [if_pos (by rfl)]
                  obtain ⟨k0, k1, k2, k3, k4⟩ := HN.out.five
                  obtain ⟨f0, f1, f2, f3, f4⟩ := HN.out.free5
                  go_simp
                  refine hK.out _ _ ?_ (fun hHeld2 => ?_)
                  · exact ⟨((((((id hHeld).1.far (by dsimp only; omega) _).far (by dsimp only; omega) _).far (by dsimp only; omega) _).far (by dsimp only; omega) _).far (by dsimp only; omega) _), ((((((id hHeld).2.1.far (by dsimp only; omega) _).far (by dsimp only; omega) _).far (by dsimp only; omega) _).far (by dsimp only; omega) _).far (by dsimp only; omega) _), ((((((id hHeld).2.2.1.far (by dsimp only; omega) _).far (by dsimp only; omega) _).far (by dsimp only; omega) _).far (by dsimp only; omega) _).far (by dsimp only; omega) _), ((((((id hHeld).2.2.2.1.far (by dsimp only; omega) _).far (by dsimp only; omega) _).far (by dsimp only; omega) _).far (by dsimp only; omega) _).far (by dsimp only; omega) _), ((((((id hHeld).2.2.2.2.set (by dsimp only; omega) _).set (by dsimp only; omega) _).set (by dsimp only; omega) _).set (by dsimp only; omega) _).set (by dsimp only; omega) _)⟩
                  have VN := Lib.hid (HN.out.set5 (.bool (QM ((a.x - b.x) * (a.y + b.y)))) (.int .u64 (Q0 ((a.x - b.x) * (a.y + b.y)))) (.int .u64 (Q1 ((a.x - b.x) * (a.y + b.y)))) (.int .u64 (Q2 ((a.x - b.x) * (a.y + b.y)))) (.int .u64 (Q3 ((a.x - b.x) * (a.y + b.y)))))
                  clear HL
                  clear hK K hHeld HN k0 k1 k2 k3 k4 f0 f1 f2 f3 f4
                  have hHeld := hHeld2
                  clear hHeld2
                  try simp only [Act.put, List.getElem_toArray, List.getElem_cons_succ, List.getElem_cons_zero, List.setIfInBounds_toArray, List.set_cons_zero, List.set_cons_succ]
                  refine wpAnyH_take (i := 19) (v := ?_) rfl (by kernel_rfl) (by kernel_rfl) (by kernel_rfl) (fun _ _ _ h => h) (Or.inl ⟨by rfl, ?_⟩) (by assumption) ?_
                  rotate_left
                  · intro Wq hSw
                    clear hSw
                    go_simp
                    all_goals (with_reducible rfl)
                  try simp only [Act.put, List.getElem_toArray, List.getElem_cons_succ, List.getElem_cons_zero, List.setIfInBounds_toArray, List.set_cons_zero, List.set_cons_succ]
                  refine wpAnyH_done (by kernel_rfl) ?_ _
                  go_wp2_with fail
                  go_meet
                  case rel => exact ⟨_, rfl, VN.out, id hHeld⟩
              · rw [if_pos (by rfl)]
                go_simp
                refine hK.out _ _ ?_ (fun hHeld2 => ?_)
                · exact ⟨(id hHeld).1.below (bl_one _ _), (id hHeld).2.1.below (bl_one _ _), (id hHeld).2.2.1.below (bl_one _ _), (id hHeld).2.2.2.1.below (bl_one _ _), (id hHeld).2.2.2.2.below (bl_one _ _)⟩
                have hge := (id hHeld).2.2.2.2.sz
                have hlt0 := (id hHeld).1.lt
                have hlt1 := (id hHeld).2.1.lt
                have hlt2 := (id hHeld).2.2.1.lt
                have hlt3 := (id hHeld).2.2.2.1.lt
                have HN := Lib.hid ((id hHeld).2.2.2.2.var5 (.bool false) (.int .u64 0) (.int .u64 0) (.int .u64 0) (.int .u64 0) 80)
                clear hK K hHeld
                have hHeld := hHeld2
                clear hHeld2
                try simp only [Act.put, List.getElem_toArray, List.getElem_cons_succ, List.getElem_cons_zero, List.setIfInBounds_toArray, List.set_cons_zero, List.set_cons_succ]
                revert HN
                revert hHeld
                generalize World.alloc _ _ = W2
                intro hHeld HN
                refine wpAnyH_ready (rs := [11]) (by kernel_rfl) (by simp) ?_
                refine (AllReadyH.cons rfl (fun K hK => ?_) AllReadyH.nil)
                rw [if_pos (by rfl)]
                go_simp
                go_at_call 59
                (with_reducible refine (ofQ (a.y + b.y) HY.out.1 HY.out.2 _).mono ?_); rintro e w1 ⟨rfl, hb1⟩
                go_wp2_with fail
                refine hK.out _ _ ?_ (fun hHeld2 => ?_)
                · exact ⟨(id hHeld).1.below hb1, (id hHeld).2.1.below hb1, (id hHeld).2.2.1.below hb1, (id hHeld).2.2.2.1.below hb1, (id hHeld).2.2.2.2.below hb1⟩
                replace HN := Lib.hid (HN.out.below hb1)
                clear hK K hHeld hb1
                have hHeld := hHeld2
                clear hHeld2
                try simp only [Act.put, List.getElem_toArray, List.getElem_cons_succ, List.getElem_cons_zero, List.setIfInBounds_toArray, List.set_cons_zero, List.set_cons_succ]
                refine wpAnyH_ready (rs := [12]) (by kernel_rfl) (by simp) ?_
                refine (AllReadyH.cons rfl (fun K hK => ?_) AllReadyH.nil)
                rw [if_pos (by rfl)]
                go_simp
                refine hK.out _ _ ?_ (fun hHeld2 => ?_)
                · exact ⟨(id hHeld).1.below (bl_one _ _), (id hHeld).2.1.below (bl_one _ _), (id hHeld).2.2.1.below (bl_one _ _), (id hHeld).2.2.2.1.below (bl_one _ _), (id hHeld).2.2.2.2.below (bl_one _ _)⟩
                replace HN := Lib.hid (HN.out.below (al_of (id hHeld2).2.2.2.2 (bl_one _ _)))
                have HL := hL_of (id hHeld).2.2.2.2 (fun W => wides2_wd8 W (a.x - b.x) (a.y + b.y) 80)
                clear hK K hHeld
                have hHeld := hHeld2
                clear hHeld2
                try simp only [Act.put, List.getElem_toArray, List.getElem_cons_succ, List.getElem_cons_zero, List.setIfInBounds_toArray, List.set_cons_zero, List.set_cons_succ]
                revert HN
                revert HL
                revert hHeld
                generalize World.alloc _ _ = W2
                intro hHeld HL HN
                refine wpAnyH_ready (rs := [13]) (by kernel_rfl) (by simp) ?_
                refine (AllReadyH.cons rfl (fun K hK => ?_) AllReadyH.nil)
                rw [if_pos (by rfl)]
                go_simp
                go_at_call 60
                (with_reducible refine (mulQ (a.x - b.x) (a.y + b.y) hbw.out.1 hbw.out.2.1 hbw.out.2.2 _ _ _ HL.out).mono ?_); rintro e w1 ⟨rfl, hb1⟩
                go_wp2_with fail
                refine hK.out _ _ ?_ (fun hHeld2 => ?_)
                · exact ⟨(id hHeld).1.below hb1, (id hHeld).2.1.below hb1, (id hHeld).2.2.1.below hb1, (id hHeld).2.2.2.1.below hb1, (id hHeld).2.2.2.2.below hb1⟩
                replace HN := Lib.hid (HN.out.below hb1)
                replace HL := Lib.hid (HL.out.below hb1)
                clear hK K hHeld hb1
                have hHeld := hHeld2
                clear hHeld2
                try simp only [Act.put, List.getElem_toArray, List.getElem_cons_succ, List.getElem_cons_zero, List.setIfInBounds_toArray, List.set_cons_zero, List.set_cons_succ]
                refine wpAnyH_take (i := 14) (v := ?_) rfl (by kernel_rfl) (by kernel_rfl) (by kernel_rfl) (fun _ _ _ h => h) (Or.inl ⟨by rfl, ?_⟩) (by assumption) ?_
                rotate_left
                · intro Wq hSw
                  clear hSw
                  go_simp
                  all_goals (with_reducible rfl)
                try simp only [Act.put, List.getElem_toArray, List.getElem_cons_succ, List.getElem_cons_zero, List.setIfInBounds_toArray, List.set_cons_zero, List.set_cons_succ]
                refine wpAnyH_take (i := 15) (v := ?_) rfl (by kernel_rfl) (by kernel_rfl) (by kernel_rfl) (fun _ _ _ h => h) (Or.inl ⟨by rfl, ?_⟩) (by assumption) ?_
                rotate_left
                · intro Wq hSw
                  clear hSw
                  go_simp
                  all_goals (with_reducible rfl)
                try simp only [Act.put, List.getElem_toArray, List.getElem_cons_succ, List.getElem_cons_zero, List.setIfInBounds_toArray, List.set_cons_zero, List.set_cons_succ]
                refine wpAnyH_take (i := 16) (v := ?_) rfl (by kernel_rfl) (by kernel_rfl) (by kernel_rfl) (fun _ _ _ h => h) (Or.inl ⟨by rfl, ?_⟩) (by assumption) ?_
                rotate_left
                · intro Wq hSw
                  clear hSw
                  go_simp
                  all_goals (with_reducible rfl)
                try simp only [Act.put, List.getElem_toArray, List.getElem_cons_succ, List.getElem_cons_zero, List.setIfInBounds_toArray, List.set_cons_zero, List.set_cons_succ]
                refine wpAnyH_ready (rs := [18]) (by kernel_rfl) (by simp) ?_
                refine (AllReadyH.cons rfl (fun K hK => ?_) AllReadyH.nil)
                rw [if_pos (by rfl)]
                obtain ⟨k0, k1, k2, k3, k4⟩ := HN.out.five
                obtain ⟨f0, f1, f2, f3, f4⟩ := HN.out.free5
                go_simp
                refine hK.out _ _ ?_ (fun hHeld2 => ?_)
                · exact ⟨((((((id hHeld).1.far (by dsimp only; omega) _).far (by dsimp only; omega) _).far (by dsimp only; omega) _).far (by dsimp only; omega) _).far (by dsimp only; omega) _), ((((((id hHeld).2.1.far (by dsimp only; omega) _).far (by dsimp only; omega) _).far (by dsimp only; omega) _).far (by dsimp only; omega) _).far (by dsimp only; omega) _), ((((((id hHeld).2.2.1.far (by dsimp only; omega) _).far (by dsimp only; omega) _).far (by dsimp only; omega) _).far (by dsimp only; omega) _).far (by dsimp only; omega) _), ((((((id hHeld).2.2.2.1.far (by dsimp only; omega) _).far (by dsimp only; omega) _).far (by dsimp only; omega) _).far (by dsimp only; omega) _).far (by dsimp only; omega) _), ((((((id hHeld).2.2.2.2.set (by dsimp only; omega) _).set (by dsimp only; omega) _).set (by dsimp only; omega) _).set (by dsimp only; omega) _).set (by dsimp only; omega) _)⟩
                have VN := Lib.hid (HN.out.set5 (.bool (QM ((a.x - b.x) * (a.y + b.y)))) (.int .u64 (Q0 ((a.x - b.x) * (a.y + b.y)))) (.int .u64 (Q1 ((a.x - b.x) * (a.y + b.y)))) (.int .u64 (Q2 ((a.x - b.x) * (a.y + b.y)))) (.int .u64 (Q3 ((a.x - b.x) * (a.y + b.y)))))
                clear HL
                clear hK K hHeld HN k0 k1 k2 k3 k4 f0 f1 f2 f3 f4
                have hHeld := hHeld2
                clear hHeld2
                try simp only [Act.put, List.getElem_toArray, List.getElem_cons_succ, List.getElem_cons_zero, List.setIfInBounds_toArray, List.set_cons_zero, List.set_cons_succ]
                refine wpAnyH_take (i := 19) (v := ?_) rfl (by kernel_rfl) (by kernel_rfl) (by kernel_rfl) (fun _ _ _ h => h) (Or.inl ⟨by rfl, ?_⟩) (by assumption) ?_
                rotate_left
                · intro Wq hSw
                  clear hSw
                  go_simp
                  all_goals (with_reducible rfl)
                try simp only [Act.put, List.getElem_toArray, List.getElem_cons_succ, List.getElem_cons_zero, List.setIfInBounds_toArray, List.set_cons_zero, List.set_cons_succ]
                refine wpAnyH_done (by kernel_rfl) ?_ _
                go_wp2_with fail
                go_meet
                case rel => exact ⟨_, rfl, VN.out, id hHeld⟩
            · rw [if_pos (by rfl)]
              go_simp
              refine hK.out _ _ ?_ (fun hHeld2 => ?_)
              · exact ⟨(id hHeld).1.below (bl_one _ _), (id hHeld).2.1.below (bl_one _ _), (id hHeld).2.2.1.below (bl_one _ _), (id hHeld).2.2.2.1.below (bl_one _ _), (id hHeld).2.2.2.2.below (bl_one _ _)⟩
              have hge := (id hHeld).2.2.2.2.sz
              have hlt0 := (id hHeld).1.lt
              have hlt1 := (id hHeld).2.1.lt
              have hlt2 := (id hHeld).2.2.1.lt
              have hlt3 := (id hHeld).2.2.2.1.lt
              have HN := Lib.hid ((id hHeld).2.2.2.2.var5 (.bool false) (.int .u64 0) (.int .u64 0) (.int .u64 0) (.int .u64 0) 80)
              clear hK K hHeld
              have hHeld := hHeld2
              clear hHeld2
              try simp only [Act.put, List.getElem_toArray, List.getElem_cons_succ, List.getElem_cons_zero, List.setIfInBounds_toArray, List.set_cons_zero, List.set_cons_succ]
              revert HN
              revert hHeld
              generalize World.alloc _ _ = W2
              intro hHeld HN
              refine wpAnyH_ready (rs := [5]) (by kernel_rfl) (by simp) ?_
              refine (AllReadyH.cons rfl (fun K hK => ?_) AllReadyH.nil)
              rw [if_pos (by rfl)]
              go_simp
              go_at_call 59
              (with_reducible refine (ofQ (a.x - b.x) HX.out.1 HX.out.2 _).mono ?_); rintro e w1 ⟨rfl, hb1⟩
              go_wp2_with fail
              refine hK.out _ _ ?_ (fun hHeld2 => ?_)
              · exact ⟨(id hHeld).1.below hb1, (id hHeld).2.1.below hb1, (id hHeld).2.2.1.below hb1, (id hHeld).2.2.2.1.below hb1, (id hHeld).2.2.2.2.below hb1⟩
              replace HN := Lib.hid (HN.out.below hb1)
              clear hK K hHeld hb1
              have hHeld := hHeld2
              clear hHeld2
              try simp only [Act.put, List.getElem_toArray, List.getElem_cons_succ, List.getElem_cons_zero, List.setIfInBounds_toArray, List.set_cons_zero, List.set_cons_succ]
              refine wpAnyH_ready (rs := [11]) (by kernel_rfl) (by simp) ?_
              refine (AllReadyH.cons rfl (fun K hK => ?_) AllReadyH.nil)
              rw [if_pos (by rfl)]
              go_simp
              go_at_call 59
              (with_reducible refine (ofQ (a.y + b.y) HY.out.1 HY.out.2 _).mono ?_); rintro e w1 ⟨rfl, hb1⟩
              go_wp2_with fail
              refine hK.out _ _ ?_ (fun hHeld2 => ?_)
              · exact ⟨(id hHeld).1.below hb1, (id hHeld).2.1.below hb1, (id hHeld).2.2.1.below hb1, (id hHeld).2.2.2.1.below hb1, (id hHeld).2.2.2.2.below hb1⟩
              replace HN := Lib.hid (HN.out.below hb1)
              clear hK K hHeld hb1
              have hHeld := hHeld2
              clear hHeld2
              try simp only [Act.put, List.getElem_toArray, List.getElem_cons_succ, List.getElem_cons_zero, List.setIfInBounds_toArray, List.set_cons_zero, List.set_cons_succ]
              refine wpAnyH_ready (rs := [12]) (by kernel_rfl) (by simp) ?_
              refine (AllReadyH.cons rfl (fun K hK => ?_) AllReadyH.nil)
              rw [if_pos (by rfl)]
              go_simp
              refine hK.out _ _ ?_ (fun hHeld2 => ?_)
              · exact ⟨(id hHeld).1.below (bl_one _ _), (id hHeld).2.1.below (bl_one _ _), (id hHeld).2.2.1.below (bl_one _ _), (id hHeld).2.2.2.1.below (bl_one _ _), (id hHeld).2.2.2.2.below (bl_one _ _)⟩
              replace HN := Lib.hid (HN.out.below (al_of (id hHeld2).2.2.2.2 (bl_one _ _)))
              have HL := hL_of (id hHeld).2.2.2.2 (fun W => wides2_wd8 W (a.x - b.x) (a.y + b.y) 80)
              clear hK K hHeld
              have hHeld := hHeld2
              clear hHeld2
              try simp only [Act.put, List.getElem_toArray, List.getElem_cons_succ, List.getElem_cons_zero, List.setIfInBounds_toArray, List.set_cons_zero, List.set_cons_succ]
              revert HN
              revert HL
              revert hHeld
              generalize World.alloc _ _ = W2
              intro hHeld HL HN
              refine wpAnyH_ready (rs := [13]) (by kernel_rfl) (by simp) ?_
              refine (AllReadyH.cons rfl (fun K hK => ?_) AllReadyH.nil)
              rw [if_pos (by rfl)]
              go_simp
              go_at_call 60
              (with_reducible refine (mulQ (a.x - b.x) (a.y + b.y) hbw.out.1 hbw.out.2.1 hbw.out.2.2 _ _ _ HL.out).mono ?_); rintro e w1 ⟨rfl, hb1⟩
              go_wp2_with fail
              refine hK.out _ _ ?_ (fun hHeld2 => ?_)
              · exact ⟨(id hHeld).1.below hb1, (id hHeld).2.1.below hb1, (id hHeld).2.2.1.below hb1, (id hHeld).2.2.2.1.below hb1, (id hHeld).2.2.2.2.below hb1⟩
              replace HN := Lib.hid (HN.out.below hb1)
              replace HL := Lib.hid (HL.out.below hb1)
              clear hK K hHeld hb1
              have hHeld := hHeld2
              clear hHeld2
              try simp only [Act.put, List.getElem_toArray, List.getElem_cons_succ, List.getElem_cons_zero, List.setIfInBounds_toArray, List.set_cons_zero, List.set_cons_succ]
              refine wpAnyH_take (i := 14) (v := ?_) rfl (by kernel_rfl) (by kernel_rfl) (by kernel_rfl) (fun _ _ _ h => h) (Or.inl ⟨by rfl, ?_⟩) (by assumption) ?_
              rotate_left
              · intro Wq hSw
                clear hSw
                go_simp
                all_goals (with_reducible rfl)
              try simp only [Act.put, List.getElem_toArray, List.getElem_cons_succ, List.getElem_cons_zero, List.setIfInBounds_toArray, List.set_cons_zero, List.set_cons_succ]
              refine wpAnyH_take (i := 15) (v := ?_) rfl (by kernel_rfl) (by kernel_rfl) (by kernel_rfl) (fun _ _ _ h => h) (Or.inl ⟨by rfl, ?_⟩) (by assumption) ?_
              rotate_left
              · intro Wq hSw
                clear hSw
                go_simp
                all_goals (with_reducible rfl)
              try simp only [Act.put, List.getElem_toArray, List.getElem_cons_succ, List.getElem_cons_zero, List.setIfInBounds_toArray, List.set_cons_zero, List.set_cons_succ]
              refine wpAnyH_take (i := 16) (v := ?_) rfl (by kernel_rfl) (by kernel_rfl) (by kernel_rfl) (fun _ _ _ h => h) (Or.inl ⟨by rfl, ?_⟩) (by assumption) ?_
              rotate_left
              · intro Wq hSw
                clear hSw
                go_simp
                all_goals (with_reducible rfl)
              try simp only [Act.put, List.getElem_toArray, List.getElem_cons_succ, List.getElem_cons_zero, List.setIfInBounds_toArray, List.set_cons_zero, List.set_cons_succ]
              refine wpAnyH_ready (rs := [18]) (by kernel_rfl) (by simp) ?_
              refine (AllReadyH.cons rfl (fun K hK => ?_) AllReadyH.nil)
              rw [if_pos (by rfl)]
              obtain ⟨k0, k1, k2, k3, k4⟩ := HN.out.five
              obtain ⟨f0, f1, f2, f3, f4⟩ := HN.out.free5
              go_simp
              refine hK.out _ _ ?_ (fun hHeld2 => ?_)
              · exact ⟨((((((id hHeld).1.far (by dsimp only; omega) _).far (by dsimp only; omega) _).far (by dsimp only; omega) _).far (by dsimp only; omega) _).far (by dsimp only; omega) _), ((((((id hHeld).2.1.far (by dsimp only; omega) _).far (by dsimp only; omega) _).far (by dsimp only; omega) _).far (by dsimp only; omega) _).far (by dsimp only; omega) _), ((((((id hHeld).2.2.1.far (by dsimp only; omega) _).far (by dsimp only; omega) _).far (by dsimp only; omega) _).far (by dsimp only; omega) _).far (by dsimp only; omega) _), ((((((id hHeld).2.2.2.1.far (by dsimp only; omega) _).far (by dsimp only; omega) _).far (by dsimp only; omega) _).far (by dsimp only; omega) _).far (by dsimp only; omega) _), ((((((id hHeld).2.2.2.2.set (by dsimp only; omega) _).set (by dsimp only; omega) _).set (by dsimp only; omega) _).set (by dsimp only; omega) _).set (by dsimp only; omega) _)⟩
              have VN := Lib.hid (HN.out.set5 (.bool (QM ((a.x - b.x) * (a.y + b.y)))) (.int .u64 (Q0 ((a.x - b.x) * (a.y + b.y)))) (.int .u64 (Q1 ((a.x - b.x) * (a.y + b.y)))) (.int .u64 (Q2 ((a.x - b.x) * (a.y + b.y)))) (.int .u64 (Q3 ((a.x - b.x) * (a.y + b.y)))))
              clear HL
              clear hK K hHeld HN k0 k1 k2 k3 k4 f0 f1 f2 f3 f4
              have hHeld := hHeld2
              clear hHeld2
              try simp only [Act.put, List.getElem_toArray, List.getElem_cons_succ, List.getElem_cons_zero, List.setIfInBounds_toArray, List.set_cons_zero, List.set_cons_succ]
              refine wpAnyH_take (i := 19) (v := ?_) rfl (by kernel_rfl) (by kernel_rfl) (by kernel_rfl) (fun _ _ _ h => h) (Or.inl ⟨by rfl, ?_⟩) (by assumption) ?_
              rotate_left
              · intro Wq hSw
                clear hSw
                go_simp
                all_goals (with_reducible rfl)
              try simp only [Act.put, List.getElem_toArray, List.getElem_cons_succ, List.getElem_cons_zero, List.setIfInBounds_toArray, List.set_cons_zero, List.set_cons_succ]
              refine wpAnyH_done (by kernel_rfl) ?_ _
              go_wp2_with fail
              go_meet
              case rel => exact ⟨_, rfl, VN.out, id hHeld⟩
          case rest =>
          obtain ⟨g13, rfl, v13, hS⟩ := hcut
          have HL := Lib.hid (fun W => wides2_wd8 W z ((a.x - b.x) * (a.y + b.y)) 80)
          have HS1 := Lib.hid (And.intro hS.2.2.1 (And.intro hS.2.2.2.1 (And.intro (HSG.out.below hS.2.2.2.2.hb) (bl_trans HB.out hS.2.2.2.2.hb))))
          obtain ⟨k0, k1, k2, k3, k4⟩ := hS.2.2.1.five
          obtain ⟨d0, d1, d2, d3, d4⟩ := v13.five
          clear hS v13 HS0 HSG HB wx wx2 wy wy2 HWX HWY HX HY
          go_wp2_with fail
          (with_reducible refine (addQ2 z ((a.x - b.x) * (a.y + b.y)) hzz.out.1 hbw.out.2.2 hzz.out.2 _ _ _ (HL.out _)).mono ?_); rintro e w7 ⟨rfl, hb7⟩
          have hb8 := bl_trans (bl_one _ _) hb7
          replace HS1 := Lib.hid (And.intro (HS1.out.1.below hb8) (And.intro (HS1.out.2.1.below hb8) (And.intro (HS1.out.2.2.1.below hb8) (bl_trans HS1.out.2.2.2 hb8))))
          clear hb7 hb8 k0 k1 k2 k3 k4 d0 d1 d2 d3 d4
          obtain ⟨k0, k1, k2, k3, k4⟩ := HS1.out.1.five
          obtain ⟨f0, f1, f2, f3, f4⟩ := HS1.out.1.free5
          generalize z + (a.x - b.x) * (a.y + b.y) = z' at *
          go_upto_region 16 with (fail)
          have hgw : w.heap.size ≤ g8 := HG8.out
          have HV8n := Lib.hid (HS1.out.1.set5 (.bool (QM z')) (.int .u64 (Q0 z')) (.int .u64 (Q1 z')) (.int .u64 (Q2 z')) (.int .u64 (Q3 z')))
          have hne4 : g8 ≠ g4 := HNE.out
          have HV4n := Lib.hid (((((HS1.out.2.1.far (p := ⟨g8, 0, none⟩) hne4 (.bool (QM z'))).far (p := ⟨g8, 1, none⟩) hne4 (.int .u64 (Q0 z'))).far (p := ⟨g8, 2, none⟩) hne4 (.int .u64 (Q1 z'))).far (p := ⟨g8, 3, none⟩) hne4 (.int .u64 (Q2 z'))).far (p := ⟨g8, 4, none⟩) hne4 (.int .u64 (Q3 z')))
          have hneS : g8 ≠ gS := HNS.out gS oS rfl
          have HPn := Lib.hid (((((HS1.out.2.2.1.far2 hneS 0 (.bool (QM z'))).far2 hneS 1 (.int .u64 (Q0 z'))).far2 hneS 2 (.int .u64 (Q1 z'))).far2 hneS 3 (.int .u64 (Q2 z'))).far2 hneS 4 (.int .u64 (Q3 z')))
          have HBn := Lib.hid (bl_set (bl_set (bl_set (bl_set (bl_set HS1.out.2.2.2 (p := ⟨g8, 0, none⟩) hgw (.bool (QM z'))) (p := ⟨g8, 1, none⟩) hgw (.int .u64 (Q0 z'))) (p := ⟨g8, 2, none⟩) hgw (.int .u64 (Q1 z'))) (p := ⟨g8, 3, none⟩) hgw (.int .u64 (Q2 z'))) (p := ⟨g8, 4, none⟩) hgw (.int .u64 (Q3 z')))
          clear HS1 f0 f1 f2 f3 f4 k0 k1 k2 k3 k4 hgw hne4 hneS
          obtain ⟨m1, m2, m3, m4⟩ := wnum (i := k) (by omega)
          go_wp2_with fail
          clear m1 m2 m3 m4
          exact ⟨⟨k + 1, z', hlt, by rw [Int.natCast_add]; rfl, HSTZ.out, HV8n.out, HV4n.out, HPn.out, HBn.out⟩, by simp [intOf]; omega⟩
        · obtain rfl : k = S.length := by omega
          have b2 : ((S.length : Int) < (S.length : Int)) = False := eq_false (by omega)
          obtain ⟨k0, k1, k2, k3, k4⟩ := HV8.out.five
          obtain ⟨r0, r1, r2, r3, r4⟩ := HV4.out.five
          obtain ⟨f0, f1, f2, f3, f4⟩ := HV4.out.free5
          go_wp2_with fail
          refine bodyPost_ret (v := .tuple #[(.agg #[.bool (QM (z)), .int .u64 (Q0 (z)), .int .u64 (Q1 (z)), .int .u64 (Q2 (z)), .int .u64 (Q3 (z))]), .int .i64 0]) (by simp [results, Try.results42, go_sem, r0, r1, r2, r3, r4]; done) rfl ⟨?_, ?_⟩
          · have hg := HG4.out
            refine bl_set (bl_set (bl_set (bl_set (bl_set HB.out ?_ _) ?_ _) ?_ _) ?_ _) ?_ _ <;> (dsimp only; omega)
          · rw [if_pos HOK.out, ← HAZ.out, ← HZ.out]
end Go.Proofs.Ytkidphekfnmhhaa
