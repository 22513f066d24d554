/-
  Contracts of within's sides.
-/
import Derived.Test.YtkidphekfnmhhaaWKnown
import Derived.Test.YtkidphekfnmhhaaWBothMath
import Derived.Test.YtkidphekfnmhhaaRLoopsAll
import Derived.Test.YtkidphekfnmhhaaWLoc
import Derived.Test.YtkidphekfnmhhaaWChg
import Derived.Test.YtkidphekfnmhhaaWWhere
import Derived.Test.YtkidphekfnmhhaaWMean
namespace Go.Proofs.Ytkidphekfnmhhaa
open Go.RowKit

/-- a ring's segments -/
def sidesL (R : List Int) : List Pt := (List.range R.length).map fun i : Nat => ⟨R.getD i 0, R.getD ((i + 1) % R.length) 0⟩
theorem sidesL_len (R : List Int) : (sidesL R).length = R.length := by simp [sidesL]
theorem sidesL_at {R : List Int} {i : Nat} (h : i < R.length) : pget (sidesL R) i = ⟨R.getD i 0, R.getD ((i + 1) % R.length) 0⟩ := by
  unfold pget sidesL
  simp [List.getD, h]
theorem pget_ext {D L : List Pt} (h : D.length = L.length) (hj : ∀ j, j < L.length → pget D j = pget L j) : D = L := by
  apply List.ext_getElem h
  intro i h1 h2
  have := hj i h2
  unfold pget at this
  simpa [List.getD, h1, h2] using this
theorem pget_set_eq9 {l : List Pt} {a : Nat} (h : a < l.length) (q : Pt) : pget (l.set a q) a = q := by unfold pget; simp [List.getD, h]
theorem pget_set_ne9 {l : List Pt} {a b : Nat} {q : Pt} (h : a ≠ b) : pget (l.set a q) b = pget l b := by unfold pget; simp [List.getD_eq_getElem?_getD, List.getElem?_set_ne h]

set_option maxHeartbeats 8000000 in
set_option maxRecDepth 100000 in
theorem sides9_l (R : List Int) (ar : Option Addr) (cr : Nat) (w : World) (hR : IntRow w ar R) (hlen : R.length ≤ 10000) :
    Calls Try.prog 39 #[.slice ar R.length cr] w fun e w' => ∃ v, e = .returned v ∧ Op 51 w v (sidesL R) w' := by
  obtain ⟨e0, hi0, hz0, hz1, hz2⟩ := info_parts info_eseg
  have HR := Lib.hid hR
  clear hR
  obtain ⟨n, hn⟩ : ∃ n, R.length = n := ⟨_, rfl⟩
  have HN := Lib.hid hn
  rw [hn] at hlen ⊢
  clear hn
  go_enter Try.func39, Try.ntmps39
  go_wp2_with (at_make; refine wpList_make_full _ rfl _ _ 23 rfl w.heap.size 51 e0 (.agg #[.int .i64 0, .int .i64 0]) 2 Try.underlying23 hi0 hz0 hz1 _ _ _ _ n rfl rfl rfl rfl ?b2 ?b3 (by simp) ?_)
  case b2 => rw [hz2]; omega
  case b3 => unfold maxLen; omega
  intro w0 hown0 hgrow0
  have HO0 := Lib.hid (op_made rfl hown0 hgrow0)
  clear hown0 hgrow0
  obtain ⟨g3, hg3⟩ : ∃ g, w.heap.size = g := ⟨_, rfl⟩
  rw [hg3] at HO0 ⊢
  have hG3 := Lib.hid hg3
  clear hg3
  go_wp2_with fail
  go_loopw [11] (fun iv W => ∃ i : Nat, ∃ D : List Pt, i ≤ n ∧ iv = .int .i64 i ∧ D.length = n ∧ (∀ j, j < i → pget D j = pget (sidesL R) j) ∧ Op 51 w (.slice (some ⟨g3, 0, none⟩) n n) D W) (fun iv _ => n - (intOf iv).toNat)
  case atStart => exact ⟨0, _, Nat.zero_le _, rfl, List.length_replicate, fun j hj => absurd hj (Nat.not_lt_zero _), HO0.out⟩
  case round =>
    obtain ⟨i, D, hi9, rfl, hDl, hD, hO⟩ := hrel
    have HO := Lib.hid hO
    have HD := Lib.hid hD
    have HDl := Lib.hid hDl
    clear hO hD hDl HO0
    by_cases hil : i < n
    · have q1 : ((i : Int) < (n : Int)) = True := eq_true (by omega)
      have q2 : (i < n) = True := eq_true hil
      have q3 : ((0 : Int) ≤ (i : Int)) = True := eq_true (by omega)
      obtain ⟨g5, o5, rfl⟩ := HR.out.some (by have := HN.out; omega)
      have HI := Lib.hid (HR.out.below HO.out.hb)
      obtain ⟨k, hk⟩ : ∃ k, (i + 1) % n = k := ⟨_, rfl⟩
      have hkl : k < n := by rw [← hk]; exact Nat.mod_lt _ (by omega)
      have q4 : ((n : Int) = 0) = False := eq_false (by omega)
      have q4b : (n = 0) = False := eq_false (by omega)
      have q5 : ((n : Int) == 0) = false := beq_eq_false_iff_ne.2 (by omega)
      have q6 : ((i : Int) + 1).tmod (n : Int) = (k : Int) := by rw [← hk]; rfl
      have q7 : ((k : Int) < (n : Int)) = True := eq_true (by omega)
      have q8 : (k < n) = True := eq_true hkl
      have q9 : ((0 : Int) ≤ (k : Int)) = True := eq_true (by omega)
      have hiR : i < R.length := by have := HN.out; omega
      have hkR : k < R.length := by have := HN.out; omega
      obtain ⟨x, hx⟩ : ∃ x, R.getD i 0 = x := ⟨_, rfl⟩
      obtain ⟨y, hy⟩ : ∃ y, R.getD k 0 = y := ⟨_, rfl⟩
      have k0 := intRow_at HI.out hiR (t := x) (by rw [← hx]; simp [hiR])
      have k1 := intRow_at HI.out hkR (t := y) (by rw [← hy]; simp [hkR])
      have HS : Hid (pget (sidesL R) i = ⟨x, y⟩) := by
        unfold Hid
        rw [sidesL_at hiR, HN.out, hk, hx, hy]
      have hlt3 : g3 < wr.heap.size := (HO.out.own.lt g3 rfl).2
      have f0 := HO.out.frozen HDl.out.symm (i * 2)
      have f1 := HO.out.frozen HDl.out.symm (i * 2 + 1)
      obtain ⟨c0, c1⟩ := HO.out.cell HDl.out.symm (j := i) (by have := HDl.out; omega)
      have HO2 := Lib.hid (HO.out.store HDl.out.symm i (by have := HDl.out; omega) ⟨x, y⟩)
      clear hk hx hy
      obtain ⟨m1, m2, m3, m4⟩ := wnum (i := i) (by omega)
      obtain ⟨m5, m6, -, -⟩ := wnum (i := k) (by omega)
      go_wp2_with fail
      clear m1 m2 m3 m4 m5 m6
      refine ⟨⟨i + 1, _, hil, by rw [Int.natCast_add]; rfl, ?_, fun j hj => ?_, HO2.out⟩, by simp [intOf]; omega⟩
      · rw [List.length_set]; exact HDl.out
      · rcases Nat.lt_or_eq_of_le (Nat.le_of_lt_succ hj) with h | rfl
        · rw [pget_set_ne9 (by omega)]; exact HD.out j h
        · rw [pget_set_eq9 (by have := HDl.out; omega), HS.out]
    · obtain rfl : i = n := by omega
      have q1 : ((i : Int) < (i : Int)) = False := eq_false (by omega)
      have e : D = sidesL R := pget_ext (by rw [HDl.out, sidesL_len, HN.out]) (fun j hj => HD.out j (by rw [sidesL_len, HN.out] at hj; exact hj))
      have HE := Lib.hid e
      clear e
      go_wp2_with fail
      go_ret
      exact ⟨_, rfl, by rw [← HE.out]; exact HO.out⟩
end Go.Proofs.Ytkidphekfnmhhaa

/-
  Plain: how deep each ring lies; memory of a row of rows of segments.
-/
namespace Go.Proofs.Ytkidphekfnmhhaa
open Go.RowKit

def okRing (p : List Pt) (R : List Int) : Bool := !(decide (R.length = 0)) && properL p (sidesL R)
def ringOf (rs : List (List Int)) (i : Nat) : List Int := rs.getD i []
def headPt (p : List Pt) (R : List Int) : Pt := ptI p (R.getD 0 0)
def deepB (p : List Pt) (rs : List (List Int)) (i k : Nat) : Bool := !(decide (k = i)) && decide (whereZ 1 p (sidesL (ringOf rs k)) (headPt p (ringOf rs i)) = 1)
def cntN (f : Nat → Bool) : Nat → Nat
  | 0 => 0
  | m + 1 => cntN f m + if f m then 1 else 0
theorem cntN_le (f : Nat → Bool) : ∀ m, cntN f m ≤ m
  | 0 => Nat.le_refl _
  | m + 1 => by
    have := cntN_le f m
    unfold cntN
    split <;> omega
def deepL (p : List Pt) (rs : List (List Int)) : List Int := (List.range rs.length).map fun i : Nat => ((cntN (deepB p rs i) rs.length : Nat) : Int)
theorem deepL_len (p : List Pt) (rs : List (List Int)) : (deepL p rs).length = rs.length := by simp [deepL]
theorem deepL_at (p : List Pt) {rs : List (List Int)} {i : Nat} (h : i < rs.length) : (deepL p rs).getD i 0 = ((cntN (deepB p rs i) rs.length : Nat) : Int) := by
  unfold deepL
  simp [List.getD, h]
def deepN (p : List Pt) (rs : List (List Int)) : List Int := if rs.all (okRing p) then deepL p rs else []
def deepE (p : List Pt) (rs : List (List Int)) : Int := if rs.all (okRing p) then 0 else 2
theorem ringOf_at {rs : List (List Int)} {i : Nat} (h : i < rs.length) : ringOf rs i = rs[i] := by simp [ringOf, List.getD, h]
theorem okRing_iff {p : List Pt} {R : List Int} : okRing p R = true ↔ R.length ≠ 0 ∧ properL p (sidesL R) = true := by
  unfold okRing
  rw [Bool.and_eq_true]
  simp
theorem all_ok {p : List Pt} {rs : List (List Int)} : rs.all (okRing p) = true ↔ ∀ i, i < rs.length → okRing p (ringOf rs i) = true := by
  rw [List.all_eq_true]
  constructor
  · intro h i hi
    rw [ringOf_at hi]
    exact h _ (List.getElem_mem _)
  · intro h x hx
    obtain ⟨i, hi, rfl⟩ := List.getElem_of_mem hx
    have := h i hi
    rwa [ringOf_at hi] at this
theorem deep_no {p : List Pt} {rs : List (List Int)} {i : Nat} (hi : i < rs.length) (h : okRing p (ringOf rs i) = false) : deepN p rs = [] ∧ deepE p rs = 2 := by
  have : rs.all (okRing p) = false := by
    rw [Bool.eq_false_iff]; intro k
    have := all_ok.1 k i hi
    rw [h] at this; cases this
  unfold deepN deepE
  rw [this]
  exact ⟨rfl, rfl⟩
theorem deep_yes {p : List Pt} {rs : List (List Int)} (h : ∀ i, i < rs.length → okRing p (ringOf rs i) = true) : deepN p rs = deepL p rs ∧ deepE p rs = 0 := by
  unfold deepN deepE
  rw [all_ok.2 h]
  exact ⟨rfl, rfl⟩
theorem head_known {p : List Pt} {R : List Int} (h : okRing p R = true) : knownB p (R.getD 0 0) = true := by
  obtain ⟨h1, h2⟩ := okRing_iff.1 h
  have h0 : 0 < R.length := by omega
  have := (ok9_iff.1 (proper_iff.1 h2 0 (by rw [sidesL_len]; exact h0))).1
  rw [sidesL_at h0] at this
  exact this
theorem ints_ext {D L : List Int} (h : D.length = L.length) (hj : ∀ j, j < L.length → D.getD j 0 = L.getD j 0) : D = L := by
  apply List.ext_getElem h
  intro i h1 h2
  have := hj i h2
  simpa [List.getD, h1, h2] using this
theorem getD_set_eq9 {l : List Int} {a : Nat} (h : a < l.length) (q : Int) : (l.set a q).getD a 0 = q := by simp [List.getD, h]
theorem getD_set_ne9 {l : List Int} {a b : Nat} {q : Int} (h : a ≠ b) : (l.set a q).getD b 0 = l.getD b 0 := by simp [List.getD_eq_getElem?_getD, List.getElem?_set_ne h]

theorem Var.setAt9 {W : World} {g : Nat} {vs : List Value} (h : Var W g vs) {k : Nat} (hk : k < vs.length) (u : Value) : Var (W.setCell ⟨g, k, none⟩ u) g (vs.set k u) := by
  refine ⟨by simpa using h.lt, fun i hi => ?_, fun i hi => ?_⟩
  · rw [List.length_set] at hi
    by_cases e : i = k
    · subst e
      rw [World.cell?_setCell_same _ _ _ (h.cells i hk)]
      simp
    · rw [World.cell?_setCell_other _ _ _ _ (by intro e'; injection e' with e1 e2; omega), h.cells i hi, List.getElem_set_ne (by omega)]
  · rw [List.length_set] at hi
    simpa using h.free i hi
theorem PtRow.other9 {W : World} {ad : Option Addr} {l : List Pt} (h : PtRow W ad l) {g j : Nat} (hg : ∀ g' o, ad = .some ⟨g', o, none⟩ → g' ≠ g) (u : Value) : PtRow (W.setCell ⟨g, j, none⟩ u) ad l := by
  intro i hi
  obtain ⟨g', o, e, h1, h2⟩ := h i hi
  have hne := hg g' o e
  exact ⟨g', o, e, (World.cell?_setCell_other _ _ _ _ (by intro e'; exact hne (congrArg Addr.block e').symm)).trans h1, (World.cell?_setCell_other _ _ _ _ (by intro e'; exact hne (congrArg Addr.block e').symm)).trans h2⟩
/-- the first k rows of segments -/
def Around (W : World) (g : Nat) (rs : List (List Int)) (vs : List Value) (k : Nat) : Prop :=
  ∀ j, ∀ h : j < vs.length, j < k → ∃ a c, vs[j] = .slice a (sidesL (ringOf rs j)).length c ∧ PtRow W a (sidesL (ringOf rs j)) ∧ (∀ g' o, a = .some ⟨g', o, none⟩ → g' ≠ g)
theorem Around.below {W W' : World} {g : Nat} {rs : List (List Int)} {vs : List Value} {k : Nat} (h : Around W g rs vs k) (hb : Below W.heap.size W W') : Around W' g rs vs k := by
  intro j hj hk
  obtain ⟨a, c, e, hp, hg⟩ := h j hj hk
  exact ⟨a, c, e, hp.below hb, hg⟩
theorem Around.set {W : World} {g : Nat} {rs : List (List Int)} {vs : List Value} {k : Nat} (h : Around W g rs vs k) {a : Option Addr} {c : Nat} (hp : PtRow W a (sidesL (ringOf rs k))) (hg : ∀ g' o, a = .some ⟨g', o, none⟩ → g' ≠ g) :
    Around (W.setCell ⟨g, k, none⟩ (.slice a (sidesL (ringOf rs k)).length c)) g rs (vs.set k (.slice a (sidesL (ringOf rs k)).length c)) (k + 1) := by
  intro j hj hk
  rw [List.length_set] at hj
  by_cases e : j = k
  · subst e
    exact ⟨a, c, by simp, hp.other9 hg _, hg⟩
  · obtain ⟨a', c', e', hp', hg'⟩ := h j hj (by omega)
    exact ⟨a', c', by rw [List.getElem_set_ne (by omega)]; exact e', hp'.other9 hg' _, hg'⟩
theorem op_block9 {T : TypeId} {W0 W : World} {a : Option Addr} {n c : Nat} {l : List Pt} (h : Op T W0 (.slice a n c) l W) {g : Nat} (hg : g < W0.heap.size) : ∀ g' o, a = .some ⟨g', o, none⟩ → g' ≠ g := by
  intro g' o e e2
  subst e
  rcases h.own.2 with ⟨e, -⟩ | ⟨g'', cap, cur, e, hb, -⟩
  · cases e
  · simp only [Value.slice.injEq, Option.some.injEq, Addr.mk.injEq] at e
    omega
theorem info_sr9 : (Try.prog.info? 23).map (fun i => (i.zero, i.size, i.bytes)) = some (some (.slice none 0 0), 1, 24) := by kernel_rfl
theorem var_made9 {W : World} {b n : Nat} {vs : List Value} (hl : vs.length = n) (hown : W.ownsRow b 23 1 (.slice (some ⟨b, 0, none⟩) n n) n vs) : Var W b vs := by
  refine ⟨(hown.lt b rfl).2, fun i hi => ?_, fun i hi => hown.frozenAt i⟩
  have hc := hown.cells (g := b) rfl
  have h2 := hc i vs[i] (by simp)
  rw [add_plain, Nat.zero_add] at h2
  exact h2
end Go.Proofs.Ytkidphekfnmhhaa

/-
  Contract of within's Deep.
-/
namespace Go.Proofs.Ytkidphekfnmhhaa
open Go.RowKit

set_option maxHeartbeats 16000000 in
set_option maxRecDepth 100000 in
theorem deep9_l (p : List Pt) (rs : List (List Int)) (ap ar : Option Addr) (cp cr : Nat) (w : World) (hP : PtRow w ap p) (hR : RowsAt w ar rs) (hlen : rs.length ≤ 10000) (hlr : ∀ i, i < rs.length → (ringOf rs i).length ≤ 10000) :
    Calls Try.prog 19 #[.slice ap p.length cp, .slice ar rs.length cr] w fun e W => ∃ v, e = .returned (.tuple #[v, .int .i64 (deepE p rs)]) ∧ IsInts W v (deepN p rs) ∧ Below w.heap.size w W := by
  obtain ⟨e0, hi0, hz0, hz1, hz2⟩ := info_parts info_sr9
  obtain ⟨e1, hj0, hy0, hy1, hy2⟩ := info_parts info_int
  have HP := Lib.hid hP
  have HRs := Lib.hid hR
  have HLr := Lib.hid hlr
  clear hP hR hlr
  obtain ⟨n, hn⟩ : ∃ n, rs.length = n := ⟨_, rfl⟩
  have HN := Lib.hid hn
  rw [hn] at hlen ⊢
  clear hn
  go_enter Try.func19, Try.ntmps19
  go_wp2_with (at_make; refine wpList_make_full _ rfl _ _ 75 rfl w.heap.size 23 e0 (.slice none 0 0) 1 Try.underlying75 hi0 hz0 hz1 _ _ _ _ n rfl rfl rfl rfl ?b2 ?b3 (by simp) ?_)
  case b2 => rw [hz2]; omega
  case b3 => unfold maxLen; omega
  intro w0 hown0 hgrow0
  obtain ⟨vs0, hvs0⟩ : ∃ vs, (madeCells #[Value.slice none 0 0] n).toList = vs := ⟨_, rfl⟩
  have hl0 : vs0.length = n := by rw [← hvs0]; simp [size_madeCells]
  rw [hvs0] at hown0
  have HV0 := Lib.hid (var_made9 hl0 hown0)
  have HB0 : Hid (Below w.heap.size w w0) := (Below.refl _ _).grown hgrow0 (Nat.le_refl _) (fun k h => by cases h)
  have HL0 := Lib.hid hl0
  clear hown0 hgrow0 hvs0 hl0
  obtain ⟨g6, hg6⟩ : ∃ g, w.heap.size = g := ⟨_, rfl⟩
  have HG6 := Lib.hid hg6
  rw [hg6] at HV0 ⊢
  clear hg6
  go_wp2_with fail
  go_loopw [20] (fun iv W => ∃ i : Nat, ∃ vs : List Value, i ≤ n ∧ iv = .int .i64 i ∧ vs.length = n ∧ Var W g6 vs ∧ Around W g6 rs vs i ∧ (∀ j, j < i → okRing p (ringOf rs j) = true) ∧ Below w.heap.size w W) (fun iv _ => n - (intOf iv).toNat)
  case atStart => exact ⟨0, vs0, Nat.zero_le _, rfl, HL0.out, HV0.out, fun j _ hj => absurd hj (Nat.not_lt_zero _), fun j hj => absurd hj (Nat.not_lt_zero _), HB0.out⟩
  case round =>
    obtain ⟨i, vs, hi9, rfl, hvl, hV, hA, hO, hB⟩ := hrel
    have HV := Lib.hid hV
    have HA := Lib.hid hA
    have HO := Lib.hid hO
    have HB := Lib.hid hB
    have HVl := Lib.hid hvl
    clear hV hA hO hB hvl HV0 HB0 HL0
    by_cases hil : i < n
    · have q1 : ((i : Int) < (n : Int)) = True := eq_true (by omega)
      have q2 : (i < n) = True := eq_true hil
      have q3 : ((0 : Int) ≤ (i : Int)) = True := eq_true (by omega)
      have hir : i < rs.length := by have := HN.out; omega
      obtain ⟨gr, or, rfl⟩ := HRs.out.some (by omega)
      obtain ⟨R, hR⟩ : ∃ R, ringOf rs i = R := ⟨_, rfl⟩
      obtain ⟨a5, c5, k5w, hc5, hIw, hn5⟩ := HRs.out.at hir ((ringOf_at hir).symm.trans hR)
      have k5 := (HB.out.cell (cell_lt k5w)).trans k5w
      have HIW := Lib.hid hIw
      have HRR := Lib.hid hR
      have hRl : R.length ≤ 10000 := by have := HLr.out i hir; rw [hR] at this; exact this
      have HSd := Lib.hid (fun W h => sides9_l R a5 c5 W (HIW.out.below h) hRl)
      have HNo : Hid (okRing p R = false → deepN p rs = [] ∧ deepE p rs = 2) := fun h => deep_no hir (by rw [hR]; exact h)
      clear hIw hR k5w hc5 hn5
      have hgw := HV.out.lt
      go_wp2_with fail
      (with_reducible refine (HSd.out _ HB.out).mono ?_); rintro e w2 ⟨v2, rfl, hO2⟩
      have hb2 := hO2.hb
      obtain ⟨a7, c7, ev, -, hL7, -⟩ := hO2.pts
      subst ev
      have hbl := op_block9 hO2 (g := g6) HV.out.lt
      replace HV := Lib.hid (HV.out.below hb2)
      replace HA := Lib.hid (HA.out.below hb2)
      replace HB := Lib.hid (bl_trans HB.out hb2)
      have HA3 : Hid (Around (w2.setCell ⟨g6, i, none⟩ (.slice a7 (sidesL R).length c7)) g6 rs (vs.set i (.slice a7 (sidesL R).length c7)) (i + 1)) := by
        have := HA.out.set (a := a7) (c := c7) (by rw [HRR.out]; exact hL7) hbl
        rwa [HRR.out] at this
      have HV3 := Lib.hid (HV.out.setAt9 (k := i) (by have := HVl.out; omega) (.slice a7 (sidesL R).length c7))
      have HB3 := Lib.hid (bl_set HB.out (p := ⟨g6, i, none⟩) (by have := HG6.out; dsimp only; omega) (.slice a7 (sidesL R).length c7))
      have HL7 := Lib.hid (hL7.other9 (g := g6) (j := i) hbl (.slice a7 (sidesL R).length c7))
      have f0 := HV.out.free i (by have := HVl.out; omega)
      have c0 := HV.out.cells i (by have := HVl.out; omega)
      clear hO2 hb2 hL7 hbl k5 HSd HA
      go_upto_region 6 with (fail)
      clear f0 c0 HV HB
      generalize w2.setCell ⟨g6, i, none⟩ (.slice a7 (sidesL R).length c7) = W3 at *
      have k6 := HV3.out.cells i (by rw [List.length_set]; have := HVl.out; omega)
      rw [List.getElem_set_self] at k6
      have hgw3 := HV3.out.lt
      by_cases h0 : R.length = 0
      · have u1 : ((R.length : Int) = 0) = True := eq_true (by omega)
        have u2 : ((R.length : Int) == 0) = true := beq_iff_eq.2 (by omega)
        have u3 : (R = []) = True := eq_true (List.length_eq_zero_iff.1 h0)
        have HZ := Lib.hid (HNo.out (by unfold okRing; rw [decide_eq_true h0]; rfl))
        clear h0 HNo
        go_wp2_with fail
        go_ret2
        exact ⟨.slice none 0 0, by rw [HZ.out.2]; rfl, by rw [HZ.out.1]; exact ⟨none, 0, rfl, Nat.le_refl _, intRow_nil _ _, fun _ => rfl⟩, HB3.out⟩
      · have u1 : ((R.length : Int) = 0) = False := eq_false (by omega)
        have u2 : ((R.length : Int) == 0) = false := beq_eq_false_iff_ne.2 (by omega)
        have u3 : (R = []) = False := eq_false (fun h => h0 (by rw [h]; rfl))
        obtain ⟨r, hr⟩ : ∃ r, properL p (sidesL R) = r := ⟨_, rfl⟩
        have HC := Lib.hid (proper9_l p (sidesL R) ap a7 cp c7 W3 (HP.out.below HB3.out) HL7.out (by rw [sidesL_len]; exact hRl))
        rw [hr] at HC
        have HOk : Hid (okRing p R = r) := by unfold Hid okRing; rw [decide_eq_false h0, hr]; rfl
        clear h0 hr
        go_wp2_with fail
        (with_reducible refine HC.out.mono ?_); rintro e w4 ⟨rfl, hb4⟩
        replace HV3 := Lib.hid (HV3.out.below hb4)
        replace HA3 := Lib.hid (HA3.out.below hb4)
        replace HB3 := Lib.hid (bl_trans HB3.out hb4)
        clear hb4 HC HL7 k6
        cases r
        · have HZ := Lib.hid (HNo.out HOk.out)
          clear HNo
          go_wp2_with fail
          go_ret2
          exact ⟨.slice none 0 0, by rw [HZ.out.2]; rfl, by rw [HZ.out.1]; exact ⟨none, 0, rfl, Nat.le_refl _, intRow_nil _ _, fun _ => rfl⟩, HB3.out⟩
        · obtain ⟨m1, m2, m3, m4⟩ := wnum (i := i) (by omega)
          go_wp2_with fail
          clear m1 m2 m3 m4
          refine ⟨⟨i + 1, _, hil, by rw [Int.natCast_add]; rfl, ?_, HV3.out, HA3.out, fun j hj => ?_, HB3.out⟩, by simp [intOf]; omega⟩
          · rw [List.length_set]; exact HVl.out
          · rcases Nat.lt_or_eq_of_le (Nat.le_of_lt_succ hj) with h | rfl
            · exact HO.out j h
            · rw [HRR.out]; exact HOk.out
    · obtain rfl : i = n := by omega
      have q1 : ((i : Int) < (i : Int)) = False := eq_false (by omega)
      have HYes : Hid (deepN p rs = deepL p rs ∧ deepE p rs = 0) := deep_yes (by rw [HN.out]; exact HO.out)
      obtain ⟨W9, eW⟩ : ∃ W, W = wr := ⟨_, rfl⟩
      subst eW
      go_wp2_with (at_make; refine wpList_make_full _ rfl _ _ 36 rfl W9.heap.size 3 e1 (.int .i64 0) 1 Try.underlying36 hj0 hy0 hy1 _ _ _ _ i rfl rfl rfl rfl ?b2 ?b3 (by simp) ?_)
      case b2 => rw [hy2]; omega
      case b3 => unfold maxLen; omega
      intro w0 hown0 hgrow0
      have HO0 := Lib.hid (oi_made rfl hown0 hgrow0)
      clear hown0 hgrow0
      obtain ⟨g10, hg10⟩ : ∃ g, W9.heap.size = g := ⟨_, rfl⟩
      rw [hg10] at HO0 ⊢
      have HG10 := Lib.hid hg10
      clear hg10
      have HRs9 := Lib.hid (HRs.out.below HB.out)
      have HP9 := Lib.hid (HP.out.below HB.out)
      clear HRs HP
      go_wp2_with fail
      go_loopw [51] (fun iv W => ∃ m : Nat, ∃ D : List Int, m ≤ i ∧ iv = .int .i64 m ∧ D.length = i ∧ (∀ j, j < m → D.getD j 0 = ((cntN (deepB p rs j) i : Nat) : Int)) ∧ (∀ j, m ≤ j → D.getD j 0 = 0) ∧ Oi W9 (.slice (some ⟨g10, 0, none⟩) i i) D W) (fun iv _ => i - (intOf iv).toNat)
      case atStart => exact ⟨0, _, Nat.zero_le _, rfl, List.length_replicate, fun j hj => absurd hj (Nat.not_lt_zero _), fun j _ => by simp [List.getD, List.getElem?_replicate]; split <;> rfl, HO0.out⟩
      case round =>
        obtain ⟨m, D, hm9, rfl, hDl, hD1, hD2, hO2⟩ := hrel
        have HOi := Lib.hid hO2
        have HDl := Lib.hid hDl
        have HD1 := Lib.hid hD1
        have HD2 := Lib.hid hD2
        clear hO2 hDl hD1 hD2 HO0
        by_cases hml : m < i
        · have p1 : ((m : Int) < (i : Int)) = True := eq_true (by omega)
          have p2 : (m < i) = True := eq_true hml
          have p3 : ((0 : Int) ≤ (m : Int)) = True := eq_true (by omega)
          have hmr : m < rs.length := by have := HN.out; omega
          obtain ⟨gr, or, rfl⟩ := HRs9.out.some (by omega)
          obtain ⟨R, hR⟩ : ∃ R, ringOf rs m = R := ⟨_, rfl⟩
          obtain ⟨a5, c5, k5w, hc5, hIw, hn5⟩ := HRs9.out.at hmr ((ringOf_at hmr).symm.trans hR)
          have k5 := (HOi.out.hb.cell (cell_lt k5w)).trans k5w
          have HIW := Lib.hid hIw
          have HRR := Lib.hid hR
          have hok := HO.out m hml
          rw [hR] at hok
          have hRl : R.length ≤ 10000 := by have := HLr.out m hmr; rw [hR] at this; exact this
          obtain ⟨hR0, -⟩ := okRing_iff.1 hok
          have hR1 : 0 < R.length := by omega
          obtain ⟨x, hx⟩ : ∃ x, R.getD 0 0 = x := ⟨_, rfl⟩
          have hkx := head_known hok
          rw [hx] at hkx
          have hx0 : R[0] = x := by rw [← hx]; simp [List.getD, hR1]
          have HX0 := Lib.hid hx0
          have HKX := Lib.hid hkx
          have HHd : Hid (headPt p (ringOf rs m) = ptI p x) := by unfold Hid headPt; rw [hR, hx]
          have z0 := HD2.out m (Nat.le_refl _)
          have HZ0 := Lib.hid z0
          clear hIw hR k5w hc5 hn5 hok hx hkx hx0 hR0 z0
          go_wp2_with fail
          go_loopw [58] (fun iv W => ∃ k : Nat, ∃ E : List Int, k ≤ i ∧ iv = .int .i64 k ∧ E.length = i ∧ E.getD m 0 = ((cntN (deepB p rs m) k : Nat) : Int) ∧ (∀ j, j ≠ m → E.getD j 0 = D.getD j 0) ∧ Oi W9 (.slice (some ⟨g10, 0, none⟩) i i) E W) (fun iv _ => i - (intOf iv).toNat)
          case atStart => exact ⟨0, D, Nat.zero_le _, rfl, HDl.out, HZ0.out, fun _ _ => rfl, HOi.out⟩
          case round =>
            obtain ⟨k, E, hk9, rfl, hEl, hE1, hE2, hO2⟩ := hrel
            clear HOi k5
            have HOi := Lib.hid hO2
            have HEl := Lib.hid hEl
            have HE1 := Lib.hid hE1
            have HE2 := Lib.hid hE2
            clear hO2 hEl hE1 hE2
            by_cases hkl : k < i
            · have r1 : ((k : Int) < (i : Int)) = True := eq_true (by omega)
              have r2 : (k < i) = True := eq_true hkl
              have r3 : ((0 : Int) ≤ (k : Int)) = True := eq_true (by omega)
              have hkr : k < rs.length := by have := HN.out; omega
              obtain ⟨S, hS⟩ : ∃ S, ringOf rs k = S := ⟨_, rfl⟩
              obtain ⟨a8, c8, ev8, hp8, -⟩ := HA.out k (by have := HVl.out; omega) hkl
              have k8 := (HV.out.below HOi.out.hb).cells k (by have := HVl.out; omega)
              rw [ev8, hS] at k8
              rw [hS] at hp8
              have HP8 := Lib.hid hp8
              have hoS := HO.out k hkl
              rw [hS] at hoS
              have hpS := (okRing_iff.1 hoS).2
              have hSl : (sidesL S).length ≤ 10000 := by rw [sidesL_len]; have := HLr.out k hkr; rw [hS] at this; exact this
              have HPS := Lib.hid hpS
              have HSl := Lib.hid hSl
              have HSS := Lib.hid hS
              clear ev8 hp8 hoS hpS hSl hS
              have N1 := Lib.hid (wnum (i := k) (by omega))
              by_cases hkm : k = m
              · have u1 : ((k : Int) = (m : Int)) = True := eq_true (by omega)
                have u2 : ((k : Int) != (m : Int)) = false := by rw [hkm]; simp
                have u3 : (k = m) = True := eq_true hkm
                have u4 : ((k : Int) == (m : Int)) = true := beq_iff_eq.2 (by omega)
                have HCn : Hid (cntN (deepB p rs m) (k + 1) = cntN (deepB p rs m) k) := by
                  have : deepB p rs m k = false := by unfold deepB; rw [decide_eq_true hkm]; rfl
                  show cntN (deepB p rs m) k + (if deepB p rs m k then 1 else 0) = _
                  rw [this]; rfl
                clear hkm
                obtain ⟨n1, n2, n3, n4⟩ := N1.out
                go_wp2_with fail
                clear n1 n2 n3 n4
                exact ⟨⟨k + 1, E, hkl, by rw [Int.natCast_add]; rfl, HEl.out, by rw [HCn.out]; exact HE1.out, HE2.out, HOi.out⟩, by simp [intOf]; omega⟩
              · have u1 : ((k : Int) = (m : Int)) = False := eq_false (by omega)
                have u2 : ((k : Int) != (m : Int)) = true := bne_iff_ne.2 (by omega)
                have u3 : (k = m) = False := eq_false hkm
                have u4 : ((k : Int) == (m : Int)) = false := beq_eq_false_iff_ne.2 (by omega)
                obtain ⟨z, hz⟩ : ∃ z, whereZ 1 p (sidesL S) (ptI p x) = z := ⟨_, rfl⟩
                have HCn : Hid (cntN (deepB p rs m) (k + 1) = cntN (deepB p rs m) k + if z = 1 then 1 else 0) := by
                  have : deepB p rs m k = decide (z = 1) := by unfold deepB; rw [decide_eq_false hkm, HHd.out, HSS.out, hz]; rfl
                  show cntN (deepB p rs m) k + (if deepB p rs m k then 1 else 0) = _
                  rw [this]
                  by_cases h : z = 1 <;> simp [h]
                have HPt := Lib.hid (fun W (h : Below W9.heap.size W9 W) => point_l p ap cp 1 x W (HP9.out.below h) HKX.out (by omega) (by omega))
                have HLc := Lib.hid (fun W (h : Below W9.heap.size W9 W) => locate_l p (sidesL S) (ptI p x) ap a8 cp c8 1 (by omega) (by omega) W (HP9.out.below h) (HP8.out.below h) HSl.out HPS.out (fitK_one HPS.out) (known_iff.1 HKX.out).2.2)
                rw [scale_one] at HPt
                rw [hz] at HLc
                generalize ptI p x = q at *
                obtain ⟨ga, oa, rfl⟩ := HIW.out.some hR1
                have kx := intRow_at (HIW.out.below HOi.out.hb) hR1 HX0.out
                rw [Nat.add_zero] at kx
                have s1 : ((0 : Int) < (R.length : Int)) = True := eq_true (by omega)
                have s2 : (0 < R.length) = True := eq_true hR1
                clear hkm hz
                go_wp2_with fail
                (with_reducible refine (HPt.out _ HOi.out.hb).mono ?_); rintro e w5 ⟨rfl, hb5⟩
                have HOi2 := Lib.hid (HOi.out.below hb5)
                clear hb5 HOi kx k8 HPt
                go_wp2_with fail
                (with_reducible refine (HLc.out _ HOi2.out.hb).mono ?_); rintro e w6 ⟨rfl, hb6⟩
                have HOi := Lib.hid (HOi2.out.below hb6)
                clear hb6 HOi2 HLc
                by_cases hz1 : z = 1
                · subst hz1
                  have hc1 := cntN_le (deepB p rs m) k
                  have HCn2 : Hid (cntN (deepB p rs m) (k + 1) = cntN (deepB p rs m) k + 1) := HCn.out
                  obtain ⟨ct, hct⟩ : ∃ c, cntN (deepB p rs m) k = c := ⟨_, rfl⟩
                  rw [hct] at HE1 HCn2 hc1
                  have f0 := HOi.out.frozen HEl.out.symm m
                  have kc := HOi.out.cell HEl.out.symm (j := m) (by have := HEl.out; omega)
                  have hEm : E[m]'(by have := HEl.out; omega) = (ct : Int) := by
                    have := HE1.out
                    have h2 : m < E.length := by have := HEl.out; omega
                    simpa [List.getD, h2] using this
                  rw [hEm] at kc
                  have HOs := Lib.hid (HOi.out.store HEl.out.symm m ((ct : Int) + 1))
                  have hg10 : g10 < w6.heap.size := (HOi.out.own.lt g10 rfl).2
                  have L1 := Lib.hid (wnum (i := ct) (by omega))
                  clear hct hEm HCn
                  obtain ⟨l1, l2, l3, l4⟩ := L1.out
                  obtain ⟨n1, n2, n3, n4⟩ := N1.out
                  go_wp2_with fail
                  clear n1 n2 n3 n4 l1 l2 l3 l4
                  refine ⟨⟨k + 1, _, hkl, by rw [Int.natCast_add]; rfl, ?_, ?_, fun j hj => ?_, HOs.out⟩, by simp [intOf]; omega⟩
                  · rw [List.length_set]; exact HEl.out
                  · rw [getD_set_eq9 (by have := HEl.out; omega), HCn2.out, Int.natCast_add]; rfl
                  · rw [getD_set_ne9 (Ne.symm hj)]; exact HE2.out j hj
                · have v1 : (z = 1) = False := eq_false hz1
                  have v2 : (z == 1) = false := beq_eq_false_iff_ne.2 hz1
                  have HCn2 : Hid (cntN (deepB p rs m) (k + 1) = cntN (deepB p rs m) k) := by unfold Hid; rw [HCn.out, if_neg hz1, Nat.add_zero]
                  clear hz1 HCn
                  obtain ⟨n1, n2, n3, n4⟩ := N1.out
                  go_wp2_with fail
                  clear n1 n2 n3 n4
                  exact ⟨⟨k + 1, E, hkl, by rw [Int.natCast_add]; rfl, HEl.out, by rw [HCn2.out]; exact HE1.out, HE2.out, HOi.out⟩, by simp [intOf]; omega⟩
            · obtain rfl : k = i := by omega
              have r1 : ((k : Int) < (k : Int)) = False := eq_false (by omega)
              obtain ⟨m1, m2, m3, m4⟩ := wnum (i := m) (by omega)
              go_wp2_with fail
              clear m1 m2 m3 m4
              refine ⟨⟨m + 1, E, hml, by rw [Int.natCast_add]; rfl, HEl.out, fun j hj => ?_, fun j hj => ?_, HOi.out⟩, by simp [intOf]; omega⟩
              · rcases Nat.lt_or_eq_of_le (Nat.le_of_lt_succ hj) with h | rfl
                · rw [HE2.out j (by omega)]; exact HD1.out j h
                · exact HE1.out
              · rw [HE2.out j (by omega)]; exact HD2.out j (by omega)
        · obtain rfl : m = i := by omega
          have p1 : ((m : Int) < (m : Int)) = False := eq_false (by omega)
          have HE : Hid (D = deepL p rs) := ints_ext (by rw [HDl.out, deepL_len, HN.out]) (fun j hj => by
            rw [deepL_len] at hj
            rw [deepL_at p hj, HN.out]
            exact HD1.out j (by have := HN.out; omega))
          have HBf := Lib.hid (bl_trans HB.out HOi.out.hb)
          go_wp2_with fail
          go_ret2
          exact ⟨_, by rw [HYes.out.2]; rfl, by rw [HYes.out.1, ← HE.out]; exact HOi.out.ints, HBf.out⟩
end Go.Proofs.Ytkidphekfnmhhaa

/-
  Contract of the document's Segs.
-/
namespace Go.Proofs.Ytkidphekfnmhhaa
open Go.RowKit

set_option maxHeartbeats 8000000 in
set_option maxRecDepth 100000 in
theorem rsegs9_l (R : List Int) (ar : Option Addr) (cr : Nat) (w : World) (hR : IntRow w ar R) (hlen : R.length ≤ 10000) :
    Calls Try.prog 40 #[.slice ar R.length cr] w fun e w' => ∃ v, e = .returned v ∧ Op 51 w v (sidesL R) w' := by
  have HR := Lib.hid hR
  clear hR
  obtain ⟨n, hn⟩ : ∃ n, R.length = n := ⟨_, rfl⟩
  have HN := Lib.hid hn
  rw [hn] at hlen ⊢
  clear hn
  go_enter Try.func40, Try.ntmps40
  go_wp2_with fail
  go_loopw [3, 4] (fun v iv W => ∃ i : Nat, i ≤ n ∧ iv = .int .i64 i ∧ Op 51 w v ((sidesL R).take i) W) (fun _ iv _ => n - (intOf iv).toNat)
  case atStart => exact ⟨0, Nat.zero_le _, rfl, by rw [List.take_zero]; exact op_nil _ w⟩
  case round =>
    obtain ⟨i, hi9, rfl, hO⟩ := hrel
    have HO := Lib.hid hO
    have HB := Lib.hid hO.hb
    clear hO
    by_cases hil : i < n
    · have q1 : ((i : Int) < (n : Int)) = True := eq_true (by omega)
      have q2 : (i < n) = True := eq_true hil
      obtain ⟨g5, o5, rfl⟩ := HR.out.some (by have := HN.out; omega)
      obtain ⟨k, hk⟩ : ∃ k, (i + 1) % n = k := ⟨_, rfl⟩
      have hkl : k < n := by rw [← hk]; exact Nat.mod_lt _ (by omega)
      have hiR : i < R.length := by have := HN.out; omega
      have hkR : k < R.length := by have := HN.out; omega
      obtain ⟨x, hx⟩ : ∃ x, R.getD i 0 = x := ⟨_, rfl⟩
      obtain ⟨y, hy⟩ : ∃ y, R.getD k 0 = y := ⟨_, rfl⟩
      have HX : Hid (R[i] = x) := by rw [← hx]; simp [hiR, Hid]
      have HY : Hid (R[k] = y) := by rw [← hy]; simp [hkR, Hid]
      have HSn : Hid ((sidesL R).take (i + 1) = (sidesL R).take i ++ [⟨x, y⟩]) := by
        unfold Hid
        rw [take_snoc9 _ (by rw [sidesL_len]; omega), sidesL_at hiR, HN.out, hk, hx, hy]
      have HLn : Hid (((sidesL R).take i).length ≤ 10000) := by unfold Hid; rw [List.length_take, sidesL_len]; omega
      have M1 := Lib.hid (wnum (i := i) (by omega))
      have hcase : (i + 1 = n ∧ k = 0) ∨ (i + 1 < n ∧ k = i + 1) := by
        rcases Nat.lt_or_ge (i + 1) n with h | h
        · exact .inr ⟨h, by rw [← hk, Nat.mod_eq_of_lt h]⟩
        · have e : i + 1 = n := by omega
          exact .inl ⟨e, by rw [← hk, e, Nat.mod_self]⟩
      have HKn := Lib.hid hkl
      clear hk hx hy
      obtain ⟨m1, m2, m3, m4⟩ := M1.out
      go_upto_if 17 with (fail)
      clear m1 m2 m3 m4
      go_cut [5] (fun x W => x = .int .i64 (k : Int) ∧ W = wr)
      case first =>
        rcases hcase with ⟨h1, rfl⟩ | ⟨h1, rfl⟩
        · have z6 : (((i : Int) + 1) == (n : Int)) = true := beq_iff_eq.2 (by omega)
          rw [z6]
          clear z6
          go_wp2_with fail
          go_meet
          case rel => exact ⟨rfl, rfl⟩
        · have z6 : (((i : Int) + 1) == (n : Int)) = false := beq_eq_false_iff_ne.2 (by omega)
          rw [z6]
          clear z6
          go_wp2_with fail
          go_meet
          case rel => exact ⟨by rw [Int.natCast_add]; rfl, rfl⟩
      case rest =>
      obtain ⟨rfl, ew⟩ := hcut
      rw [ew]
      clear ew hcase
      go_upto_region 8 with (fail)
      refine wp_region_held_drew (S := fun V => Below w.heap.size w V) (by kernel_rfl) ?_ (fun hHeld => ?_)
      · exact (bl_trans HB.out (bel_drew wr))
      have HO1 := Lib.hid (HO.out.drew)
      revert HO1
      revert hHeld
      generalize World.drew _ = W1
      intro hHeld HO1
      refine wpAnyH_take (i := 0) (v := ?_) rfl (by kernel_rfl) (by kernel_rfl) (by kernel_rfl) (fun _ _ _ h => h) (Or.inl ⟨by rfl, ?_⟩) (by assumption) ?_
      rotate_left
      · intro Wq hSw
        clear hSw
        go_simp
        all_goals (with_reducible rfl)
      try simp only [Act.put, List.getElem_toArray, List.getElem_cons_zero, List.setIfInBounds_toArray, List.set_cons_zero, List.set_cons_succ]
      refine wpAnyH_take (i := 1) (v := ?_) rfl (by kernel_rfl) (by kernel_rfl) (by kernel_rfl) (fun _ _ _ h => h) (Or.inl ⟨by rfl, ?_⟩) (by assumption) ?_
      rotate_left
      · intro Wq hSw
        clear hSw
        go_simp
        all_goals (with_reducible rfl)
      try simp only [Act.put, List.getElem_toArray, List.getElem_cons_succ, List.getElem_cons_zero, List.setIfInBounds_toArray, List.set_cons_zero, List.set_cons_succ]
      refine wpAnyH_take (i := 2) (v := ?_) rfl (by kernel_rfl) (by kernel_rfl) (by kernel_rfl) (fun _ _ _ h => h) (Or.inl ⟨by rfl, ?_⟩) (by assumption) ?_
      rotate_left
      · intro Wq hSw
        clear hSw
        go_simp
        all_goals (with_reducible rfl)
      try simp only [Act.put, List.getElem_toArray, List.getElem_cons_succ, List.getElem_cons_zero, List.setIfInBounds_toArray, List.set_cons_zero, List.set_cons_succ]
      refine wpAnyH_take (i := 3) (v := ?_) rfl (by kernel_rfl) (by kernel_rfl) (by kernel_rfl) (fun _ _ _ h => h) (Or.inl ⟨by rfl, ?_⟩) (by assumption) ?_
      rotate_left
      · intro Wq hSw
        have b1 : ((i : Int) < (n : Int)) = True := eq_true (by omega)
        have d1 : (i < n) = True := eq_true hil
        have c1 : ((0 : Int) ≤ (i : Int)) = True := eq_true (by omega)
        clear hSw
        go_simp
        all_goals (with_reducible rfl)
      try simp only [Act.put, List.getElem_toArray, List.getElem_cons_succ, List.getElem_cons_zero, List.setIfInBounds_toArray, List.set_cons_zero, List.set_cons_succ]
      refine wpAnyH_take (i := 4) (v := ?_) rfl (by kernel_rfl) (by kernel_rfl) (by kernel_rfl) (fun _ _ _ h => h) (Or.inl ⟨by rfl, ?_⟩) (by assumption) ?_
      rotate_left
      · intro Wq hSw
        have k0 := intRow_at (HR.out.below hSw) hiR HX.out
        clear hSw
        go_simp
        all_goals (with_reducible rfl)
      try simp only [Act.put, List.getElem_toArray, List.getElem_cons_succ, List.getElem_cons_zero, List.setIfInBounds_toArray, List.set_cons_zero, List.set_cons_succ]
      refine wpAnyH_take (i := 5) (v := ?_) rfl (by kernel_rfl) (by kernel_rfl) (by kernel_rfl) (fun _ _ _ h => h) (Or.inl ⟨by rfl, ?_⟩) (by assumption) ?_
      rotate_left
      · intro Wq hSw
        clear hSw
        go_simp
        all_goals (with_reducible rfl)
      try simp only [Act.put, List.getElem_toArray, List.getElem_cons_succ, List.getElem_cons_zero, List.setIfInBounds_toArray, List.set_cons_zero, List.set_cons_succ]
      refine wpAnyH_take (i := 6) (v := ?_) rfl (by kernel_rfl) (by kernel_rfl) (by kernel_rfl) (fun _ _ _ h => h) (Or.inl ⟨by rfl, ?_⟩) (by assumption) ?_
      rotate_left
      · intro Wq hSw
        clear hSw
        go_simp
        all_goals (with_reducible rfl)
      try simp only [Act.put, List.getElem_toArray, List.getElem_cons_succ, List.getElem_cons_zero, List.setIfInBounds_toArray, List.set_cons_zero, List.set_cons_succ]
      refine wpAnyH_take (i := 7) (v := ?_) rfl (by kernel_rfl) (by kernel_rfl) (by kernel_rfl) (fun _ _ _ h => h) (Or.inl ⟨by rfl, ?_⟩) (by assumption) ?_
      rotate_left
      · intro Wq hSw
        have b1 : ((k : Int) < (n : Int)) = True := eq_true (by omega)
        have d1 : (k < n) = True := eq_true hkl
        have c1 : ((0 : Int) ≤ (k : Int)) = True := eq_true (by omega)
        clear hSw
        go_simp
        all_goals (with_reducible rfl)
      try simp only [Act.put, List.getElem_toArray, List.getElem_cons_succ, List.getElem_cons_zero, List.setIfInBounds_toArray, List.set_cons_zero, List.set_cons_succ]
      refine wpAnyH_take (i := 8) (v := ?_) rfl (by kernel_rfl) (by kernel_rfl) (by kernel_rfl) (fun _ _ _ h => h) (Or.inl ⟨by rfl, ?_⟩) (by assumption) ?_
      rotate_left
      · intro Wq hSw
        have k0 := intRow_at (HR.out.below hSw) hkR HY.out
        clear hSw
        go_simp
        all_goals (with_reducible rfl)
      try simp only [Act.put, List.getElem_toArray, List.getElem_cons_succ, List.getElem_cons_zero, List.setIfInBounds_toArray, List.set_cons_zero, List.set_cons_succ]
      refine wpAnyH_take (i := 9) (v := ?_) rfl (by kernel_rfl) (by kernel_rfl) (by kernel_rfl) (fun _ _ _ h => h) (Or.inl ⟨by rfl, ?_⟩) (by assumption) ?_
      rotate_left
      · intro Wq hSw
        clear hSw
        go_simp
        all_goals (with_reducible rfl)
      try simp only [Act.put, List.getElem_toArray, List.getElem_cons_succ, List.getElem_cons_zero, List.setIfInBounds_toArray, List.set_cons_zero, List.set_cons_succ]
      refine r1 (i := 10) rfl (fun K hK => ?_)
      go_simp
      refine hK.out _ _ (bl_alloc hHeld _) (fun hHeld2 => ?_)
      clear hK K hHeld
      have hHeld := hHeld2
      clear hHeld2
      try simp only [Act.put, List.getElem_toArray, List.getElem_cons_succ, List.getElem_cons_zero, List.setIfInBounds_toArray, List.set_cons_zero, List.set_cons_succ]
      refine r1 (i := 11) rfl (fun K hK => ?_)
      refine app_pts_wp Try.underlying23 info_eseg (L := [⟨x, y⟩]) (.tmp 18) (.tmp 28) rfl rfl (HO1.out.alloc _) rfl rfl (ptRow_new _ ⟨x, y⟩ _) (fun h => by cases h) ?lim (fun v2 w2 hO2 => ?_)
      case lim => have := HLn.out; simp only [List.length_singleton]; omega
      have HO2 := Lib.hid (hO2.congr9 HSn.out.symm)
      clear hO2
      refine hK.out _ _ HO2.out.hb (fun hHeld2 => ?_)
      clear hK K hHeld HO1 HO
      have hHeld := hHeld2
      clear hHeld2
      try simp only [Act.put, List.getElem_toArray, List.getElem_cons_succ, List.getElem_cons_zero, List.setIfInBounds_toArray, List.set_cons_zero, List.set_cons_succ]
      refine wpAnyH_take (i := 12) (v := ?_) rfl (by kernel_rfl) (by kernel_rfl) (by kernel_rfl) (fun _ _ _ h => h) (Or.inl ⟨by rfl, ?_⟩) (by assumption) ?_
      rotate_left
      · intro Wq hSw
        clear hSw
        go_simp
        all_goals (with_reducible rfl)
      try simp only [Act.put, List.getElem_toArray, List.getElem_cons_succ, List.getElem_cons_zero, List.setIfInBounds_toArray, List.set_cons_zero, List.set_cons_succ]
      refine wpAnyH_done (by kernel_rfl) ?_ _
      obtain ⟨m1, m2, m3, m4⟩ := wnum (i := i) (by omega)
      go_wp2_with fail
      clear m1 m2 m3 m4
      exact ⟨⟨i + 1, hil, by rw [Int.natCast_add]; rfl, HO2.out⟩, by simp [intOf]; omega⟩
    · obtain rfl : i = n := by omega
      have q1 : ((i : Int) < (i : Int)) = False := eq_false (by omega)
      rw [List.take_of_length_le (by rw [sidesL_len, HN.out]; exact Nat.le_refl _)] at HO
      go_wp2_with fail
      go_ret
      exact ⟨_, rfl, HO.out⟩
end Go.Proofs.Ytkidphekfnmhhaa

/-
  Contract of the document's Deep.
-/
namespace Go.Proofs.Ytkidphekfnmhhaa
open Go.RowKit

theorem deepB_eq {p : List Pt} {rs : List (List Int)} {m k : Nat} (h : k = m) : deepB p rs m k = false := by unfold deepB; rw [decide_eq_true h]; rfl
theorem deepB_ne {p : List Pt} {rs : List (List Int)} {m k : Nat} {z : Int} (h : ¬ k = m) (hz : whereZ 1 p (sidesL (ringOf rs k)) (headPt p (ringOf rs m)) = z) : deepB p rs m k = decide (z = 1) := by unfold deepB; rw [decide_eq_false h, hz]; rfl
theorem intRow_n1 (W : World) (a : Int) (t : TypeId) : IntRow (W.alloc (.cells #[.int .i64 a] t)) (some ⟨W.heap.size, 0, none⟩) [a] := by
  intro i hi
  refine ⟨_, _, rfl, ?_⟩
  match i, hi with
  | 0, _ => simp [go_sem]
set_option maxHeartbeats 16000000 in
set_option maxRecDepth 100000 in
theorem rdeep9_l (p : List Pt) (rs : List (List Int)) (ap ar : Option Addr) (cp cr : Nat) (w : World) (hP : PtRow w ap p) (hR : RowsAt w ar rs) (hlen : rs.length ≤ 10000) (hlr : ∀ i, i < rs.length → (ringOf rs i).length ≤ 10000) :
    Calls Try.prog 20 #[.slice ap p.length cp, .slice ar rs.length cr] w fun e W => ∃ v, e = .returned (.tuple #[v, .int .i64 (deepE p rs)]) ∧ IsInts W v (deepN p rs) ∧ Below w.heap.size w W := by
  have HP := Lib.hid hP
  have HRs := Lib.hid hR
  have HLr := Lib.hid hlr
  clear hP hR hlr
  obtain ⟨n, hn⟩ : ∃ n, rs.length = n := ⟨_, rfl⟩
  have HN := Lib.hid hn
  rw [hn] at hlen ⊢
  clear hn
  go_enter Try.func20, Try.ntmps20
  go_wp2_with fail
  go_loopw [6] (fun iv W => ∃ i : Nat, i ≤ n ∧ iv = .int .i64 i ∧ (∀ j, j < i → okRing p (ringOf rs j) = true) ∧ Below w.heap.size w W) (fun iv _ => n - (intOf iv).toNat)
  case atStart => exact ⟨0, Nat.zero_le _, rfl, fun j hj => absurd hj (Nat.not_lt_zero _), Below.refl _ _⟩
  case round =>
    obtain ⟨i, hi9, rfl, hO, hB⟩ := hrel
    have HO := Lib.hid hO
    have HB := Lib.hid hB
    clear hO hB
    by_cases hil : i < n
    · have q1 : ((i : Int) < (n : Int)) = True := eq_true (by omega)
      have q2 : (i < n) = True := eq_true hil
      have q3 : ((0 : Int) ≤ (i : Int)) = True := eq_true (by omega)
      have hir : i < rs.length := by have := HN.out; omega
      obtain ⟨gr, or, rfl⟩ := HRs.out.some (by omega)
      obtain ⟨R, hR⟩ : ∃ R, ringOf rs i = R := ⟨_, rfl⟩
      obtain ⟨a5, c5, k5w, hc5, hIw, hn5⟩ := HRs.out.at hir ((ringOf_at hir).symm.trans hR)
      have k5 := (HB.out.cell (cell_lt k5w)).trans k5w
      have HIW := Lib.hid hIw
      have HRR := Lib.hid hR
      have hRl : R.length ≤ 10000 := by have := HLr.out i hir; rw [hR] at this; exact this
      have HSd := Lib.hid (fun W h => rsegs9_l R a5 c5 W (HIW.out.below h) hRl)
      have HNo : Hid (okRing p R = false → deepN p rs = [] ∧ deepE p rs = 2) := fun h => deep_no hir (by rw [hR]; exact h)
      have HRl := Lib.hid hRl
      clear hIw hR k5w hc5 hn5 hRl
      by_cases h0 : R.length = 0
      · have u1 : ((R.length : Int) = 0) = True := eq_true (by omega)
        have u2 : ((R.length : Int) == 0) = true := beq_iff_eq.2 (by omega)
        have u3 : (R = []) = True := eq_true (List.length_eq_zero_iff.1 h0)
        have HZ := Lib.hid (HNo.out (by unfold okRing; rw [decide_eq_true h0]; rfl))
        clear h0 HNo
        go_wp2_with fail
        go_ret2
        exact ⟨.slice none 0 0, by rw [HZ.out.2]; rfl, by rw [HZ.out.1]; exact ⟨none, 0, rfl, Nat.le_refl _, intRow_nil _ _, fun _ => rfl⟩, HB.out⟩
      · have u1 : ((R.length : Int) = 0) = False := eq_false (by omega)
        have u2 : ((R.length : Int) == 0) = false := beq_eq_false_iff_ne.2 (by omega)
        have u3 : (R = []) = False := eq_false (fun h => h0 (by rw [h]; rfl))
        go_wp2_with fail
        (with_reducible refine (HSd.out _ HB.out).mono ?_); rintro e w2 ⟨v2, rfl, hO2⟩
        have hb2 := hO2.hb
        obtain ⟨a7, c7, ev, -, hL7, -⟩ := hO2.pts
        subst ev
        replace HB := Lib.hid (bl_trans HB.out hb2)
        obtain ⟨r, hr⟩ : ∃ r, properL p (sidesL R) = r := ⟨_, rfl⟩
        have HC := Lib.hid (check_l p (sidesL R) ap a7 cp c7 1 (by omega) (by omega) w2 (HP.out.below HB.out) hL7 (by rw [sidesL_len]; exact HRl.out))
        have hck : checkL 1 p (sidesL R) = r := by
          rw [check_is, hr]
          cases r
          · rfl
          · rw [fitK_one hr]; rfl
        rw [hck] at HC
        have HOk : Hid (okRing p R = r) := by unfold Hid okRing; rw [decide_eq_false h0, hr]; rfl
        clear h0 hr hck hO2 hb2 hL7 HSd k5
        go_wp2_with fail
        (with_reducible refine HC.out.mono ?_); rintro e w4 ⟨rfl, hb4⟩
        replace HB := Lib.hid (bl_trans HB.out hb4)
        clear hb4 HC
        cases r
        · have HZ := Lib.hid (HNo.out HOk.out)
          clear HNo
          go_wp2_with fail
          go_ret2
          exact ⟨.slice none 0 0, by rw [HZ.out.2]; rfl, by rw [HZ.out.1]; exact ⟨none, 0, rfl, Nat.le_refl _, intRow_nil _ _, fun _ => rfl⟩, HB.out⟩
        · obtain ⟨m1, m2, m3, m4⟩ := wnum (i := i) (by omega)
          go_wp2_with fail
          clear m1 m2 m3 m4
          refine ⟨⟨i + 1, hil, by rw [Int.natCast_add]; rfl, fun j hj => ?_, HB.out⟩, by simp [intOf]; omega⟩
          rcases Nat.lt_or_eq_of_le (Nat.le_of_lt_succ hj) with h | rfl
          · exact HO.out j h
          · rw [HRR.out]; exact HOk.out
    · obtain rfl : i = n := by omega
      have q1 : ((i : Int) < (i : Int)) = False := eq_false (by omega)
      have HYes : Hid (deepN p rs = deepL p rs ∧ deepE p rs = 0) := deep_yes (by rw [HN.out]; exact HO.out)
      obtain ⟨W9, eW⟩ : ∃ W, W = wr := ⟨_, rfl⟩
      subst eW
      have HRs9 := Lib.hid (HRs.out.below HB.out)
      have HP9 := Lib.hid (HP.out.below HB.out)
      clear HRs HP
      go_wp2_with fail
      go_loopw [7, 8] (fun v iv W => ∃ m : Nat, m ≤ i ∧ iv = .int .i64 m ∧ Oi W9 v ((deepL p rs).take m) W) (fun _ iv _ => i - (intOf iv).toNat)
      case atStart => exact ⟨0, Nat.zero_le _, rfl, by rw [List.take_zero]; exact oi_nil W9⟩
      case round =>
        obtain ⟨m, hm9, rfl, hO2⟩ := hrel
        have HOi := Lib.hid hO2
        clear hO2
        by_cases hml : m < i
        · have p1 : ((m : Int) < (i : Int)) = True := eq_true (by omega)
          have hmr : m < rs.length := by have := HN.out; omega
          obtain ⟨gr, or, rfl⟩ := HRs9.out.some (by omega)
          obtain ⟨R, hR⟩ : ∃ R, ringOf rs m = R := ⟨_, rfl⟩
          obtain ⟨a5, c5, k5w, hc5, hIw, hn5⟩ := HRs9.out.at hmr ((ringOf_at hmr).symm.trans hR)
          have HK5 := Lib.hid k5w
          have hok := HO.out m hml
          rw [hR] at hok
          obtain ⟨hR0, -⟩ := okRing_iff.1 hok
          have hR1 : 0 < R.length := by omega
          obtain ⟨x, hx⟩ : ∃ x, R.getD 0 0 = x := ⟨_, rfl⟩
          have hkx := head_known hok
          rw [hx] at hkx
          obtain ⟨hx1, hx2, hx3⟩ := known_iff.1 hkx
          obtain ⟨a, rfl⟩ := Int.eq_ofNat_of_zero_le hx1
          have hap : a < p.length := by omega
          have hx0 : R[0] = (a : Int) := by rw [← hx]; simp [List.getD, hR1]
          obtain ⟨q, hq⟩ : ∃ q, pget p a = q := ⟨_, rfl⟩
          have hqq : ptI p (a : Int) = q := by unfold ptI; rw [Int.toNat_natCast, hq]
          rw [hqq] at hx3
          have HFq := Lib.hid hx3
          have HHd : Hid (headPt p (ringOf rs m) = q) := by unfold Hid headPt; rw [hR, hx, hqq]
          obtain ⟨ga, oa, rfl⟩ := hIw.some hR1
          have HX0 := Lib.hid (intRow_at hIw hR1 hx0)
          obtain ⟨gp, op, rfl⟩ := HP9.out.some (by omega)
          have HQ := Lib.hid hq
          have HR1 := Lib.hid hR1
          clear hIw hR k5w hc5 hn5 hok hx hkx hx0 hR0 hx1 hx2 hx3 hq hqq
          go_wp2_with fail
          obtain ⟨WA, eW⟩ : ∃ W, W = wr := ⟨_, rfl⟩
          subst eW
          go_loopw [9, 10] (fun nv iv W => ∃ k : Nat, k ≤ i ∧ iv = .int .i64 k ∧ nv = .int .i64 ((cntN (deepB p rs m) k : Nat) : Int) ∧ Below WA.heap.size WA W) (fun _ iv _ => i - (intOf iv).toNat)
          case atStart => exact ⟨0, Nat.zero_le _, rfl, rfl, Below.refl _ _⟩
          case round =>
            obtain ⟨k, hk9, rfl, rfl, hBA⟩ := hrel
            have HBA := Lib.hid hBA
            have HB9 := Lib.hid (bl_trans HOi.out.hb hBA)
            clear hBA
            by_cases hkl : k < i
            · have t1 : ((k : Int) < (i : Int)) = True := eq_true (by omega)
              have hkr : k < rs.length := by have := HN.out; omega
              obtain ⟨S, hS⟩ : ∃ S, ringOf rs k = S := ⟨_, rfl⟩
              obtain ⟨a8, c8, k8w, -, hI8, -⟩ := HRs9.out.at hkr ((ringOf_at hkr).symm.trans hS)
              have HK8 := Lib.hid k8w
              have hoS := HO.out k hkl
              rw [hS] at hoS
              have hpS := (okRing_iff.1 hoS).2
              have hSl : S.length ≤ 10000 := by have := HLr.out k hkr; rw [hS] at this; exact this
              obtain ⟨z, hz⟩ : ∃ z, whereZ 1 p (sidesL S) q = z := ⟨_, rfl⟩
              have HDN : Hid (¬ k = m → deepB p rs m k = decide (z = 1)) := fun h => deepB_ne h (by rw [hS, HHd.out, hz])
              have HSg := Lib.hid (fun W (h : Below W9.heap.size W9 W) => rsegs9_l S a8 c8 W (hI8.below h) hSl)
              have HWh := Lib.hid (fun W al cl (h : Below W9.heap.size W9 W) (hL : PtRow W al (sidesL S)) => where9_l p (sidesL S) q (some ⟨gp, op, none⟩) al cp cl 1 (by omega) (by omega) W (HP9.out.below h) hL (by rw [sidesL_len]; exact hSl) hpS (fitK_one hpS) HFq.out)
              rw [hz] at HWh
              have hcl := cntN_le (deepB p rs m) k
              obtain ⟨ct, hct⟩ : ∃ c, cntN (deepB p rs m) k = c := ⟨_, rfl⟩
              have HCt : Hid (cntN (deepB p rs m) (k + 1) = ct + if deepB p rs m k = true then 1 else 0) := by unfold Hid; rw [← hct]; rfl
              rw [hct] at hcl ⊢
              have N1 := Lib.hid (wnum (i := k) (by omega))
              have L1 := Lib.hid (wnum (i := ct) (by omega))
              clear k8w hoS hpS hSl hz hI8 hct hS
              go_upto_region 14 with (fail)
              obtain ⟨WC, eW⟩ : ∃ W, W = wr := ⟨_, rfl⟩
              subst eW
              go_cut [66] (fun u W => u = .bool (deepB p rs m k) ∧ Below WC.heap.size WC W)
              case first =>
                by_cases hkm : k = m
                · have HD := Lib.hid (deepB_eq (p := p) (rs := rs) hkm)
                  have u1 : ((k : Int) = (m : Int)) = True := eq_true (by omega)
                  have u2 : ((k : Int) != (m : Int)) = false := by rw [hkm]; simp
                  have u3 : (k = m) = True := eq_true hkm
                  clear hkm
                  refine wp_region_held_drew (S := fun V => Below WC.heap.size WC V) (by kernel_rfl) ?_ (fun hHeld => ?_)
                  · exact bel_drew WC
                  revert hHeld
                  generalize World.drew _ = W1
                  intro hHeld 
                  refine wpAnyH_take (i := 0) (v := ?_) rfl (by kernel_rfl) (by kernel_rfl) (by kernel_rfl) (fun _ _ _ h => h) (Or.inl ⟨by rfl, ?_⟩) (by assumption) ?_
                  rotate_left
                  · intro Wq hSw
                    clear hSw
                    go_simp
                    all_goals (with_reducible rfl)
                  try simp only [Act.put, List.getElem_toArray, List.getElem_cons_zero, List.setIfInBounds_toArray, List.set_cons_zero, List.set_cons_succ]
                  refine wpAnyH_take (i := 1) (v := ?_) rfl (by kernel_rfl) (by kernel_rfl) (by kernel_rfl) (fun _ _ _ h => h) (Or.inl ⟨by rfl, ?_⟩) (by assumption) ?_
                  rotate_left
                  · intro Wq hSw
                    clear hSw
                    go_simp
                    all_goals (with_reducible rfl)
                  try simp only [Act.put, List.getElem_toArray, List.getElem_cons_succ, List.getElem_cons_zero, List.setIfInBounds_toArray, List.set_cons_zero, List.set_cons_succ]
                  refine wpAnyH_take (i := 2) (v := ?_) rfl (by kernel_rfl) (by kernel_rfl) (by kernel_rfl) (fun _ _ _ h => h) (Or.inl ⟨by rfl, ?_⟩) (by assumption) ?_
                  rotate_left
                  · intro Wq hSw
                    clear hSw
                    go_simp
                    all_goals (with_reducible rfl)
                  try simp only [Act.put, List.getElem_toArray, List.getElem_cons_succ, List.getElem_cons_zero, List.setIfInBounds_toArray, List.set_cons_zero, List.set_cons_succ]
                  refine wpAnyH_take (i := 3) (v := ?_) rfl (by kernel_rfl) (by kernel_rfl) (by kernel_rfl) (fun _ _ _ h => h) (Or.inl ⟨by rfl, ?_⟩) (by assumption) ?_
                  rotate_left
                  · intro Wq hSw
                    clear hSw
                    go_simp
                    all_goals (with_reducible rfl)
                  try simp only [Act.put, List.getElem_toArray, List.getElem_cons_succ, List.getElem_cons_zero, List.setIfInBounds_toArray, List.set_cons_zero, List.set_cons_succ]
                  refine wpAnyH_take (i := 4) (v := _) rfl (by kernel_rfl) (by kernel_rfl) (by kernel_rfl) (fun _ _ _ h => h) (Or.inr ⟨by rfl, rfl⟩) (by assumption) ?_
                  try simp only [Act.put, List.getElem_toArray, List.getElem_cons_succ, List.getElem_cons_zero, List.setIfInBounds_toArray, List.set_cons_zero, List.set_cons_succ]
                  refine wpAnyH_take (i := 5) (v := _) rfl (by kernel_rfl) (by kernel_rfl) (by kernel_rfl) (fun _ _ _ h => h) (Or.inr ⟨by rfl, rfl⟩) (by assumption) ?_
                  try simp only [Act.put, List.getElem_toArray, List.getElem_cons_succ, List.getElem_cons_zero, List.setIfInBounds_toArray, List.set_cons_zero, List.set_cons_succ]
                  refine wpAnyH_take (i := 6) (v := _) rfl (by kernel_rfl) (by kernel_rfl) (by kernel_rfl) (fun _ _ _ h => h) (Or.inr ⟨by rfl, rfl⟩) (by assumption) ?_
                  try simp only [Act.put, List.getElem_toArray, List.getElem_cons_succ, List.getElem_cons_zero, List.setIfInBounds_toArray, List.set_cons_zero, List.set_cons_succ]
                  refine wpAnyH_take (i := 7) (v := _) rfl (by kernel_rfl) (by kernel_rfl) (by kernel_rfl) (fun _ _ _ h => h) (Or.inr ⟨by rfl, rfl⟩) (by assumption) ?_
                  try simp only [Act.put, List.getElem_toArray, List.getElem_cons_succ, List.getElem_cons_zero, List.setIfInBounds_toArray, List.set_cons_zero, List.set_cons_succ]
                  refine wpAnyH_take (i := 8) (v := _) rfl (by kernel_rfl) (by kernel_rfl) (by kernel_rfl) (fun _ _ _ h => h) (Or.inr ⟨by rfl, rfl⟩) (by assumption) ?_
                  try simp only [Act.put, List.getElem_toArray, List.getElem_cons_succ, List.getElem_cons_zero, List.setIfInBounds_toArray, List.set_cons_zero, List.set_cons_succ]
                  refine wpAnyH_take (i := 9) (v := _) rfl (by kernel_rfl) (by kernel_rfl) (by kernel_rfl) (fun _ _ _ h => h) (Or.inr ⟨by rfl, rfl⟩) (by assumption) ?_
                  try simp only [Act.put, List.getElem_toArray, List.getElem_cons_succ, List.getElem_cons_zero, List.setIfInBounds_toArray, List.set_cons_zero, List.set_cons_succ]
                  refine wpAnyH_take (i := 10) (v := _) rfl (by kernel_rfl) (by kernel_rfl) (by kernel_rfl) (fun _ _ _ h => h) (Or.inr ⟨by rfl, rfl⟩) (by assumption) ?_
                  try simp only [Act.put, List.getElem_toArray, List.getElem_cons_succ, List.getElem_cons_zero, List.setIfInBounds_toArray, List.set_cons_zero, List.set_cons_succ]
                  refine wpAnyH_take (i := 11) (v := _) rfl (by kernel_rfl) (by kernel_rfl) (by kernel_rfl) (fun _ _ _ h => h) (Or.inr ⟨by rfl, rfl⟩) (by assumption) ?_
                  try simp only [Act.put, List.getElem_toArray, List.getElem_cons_succ, List.getElem_cons_zero, List.setIfInBounds_toArray, List.set_cons_zero, List.set_cons_succ]
                  refine wpAnyH_take (i := 12) (v := _) rfl (by kernel_rfl) (by kernel_rfl) (by kernel_rfl) (fun _ _ _ h => h) (Or.inr ⟨by rfl, rfl⟩) (by assumption) ?_
                  try simp only [Act.put, List.getElem_toArray, List.getElem_cons_succ, List.getElem_cons_zero, List.setIfInBounds_toArray, List.set_cons_zero, List.set_cons_succ]
                  refine wpAnyH_take (i := 13) (v := _) rfl (by kernel_rfl) (by kernel_rfl) (by kernel_rfl) (fun _ _ _ h => h) (Or.inr ⟨by rfl, rfl⟩) (by assumption) ?_
                  try simp only [Act.put, List.getElem_toArray, List.getElem_cons_succ, List.getElem_cons_zero, List.setIfInBounds_toArray, List.set_cons_zero, List.set_cons_succ]
                  refine wpAnyH_take (i := 14) (v := _) rfl (by kernel_rfl) (by kernel_rfl) (by kernel_rfl) (fun _ _ _ h => h) (Or.inr ⟨by rfl, rfl⟩) (by assumption) ?_
                  try simp only [Act.put, List.getElem_toArray, List.getElem_cons_succ, List.getElem_cons_zero, List.setIfInBounds_toArray, List.set_cons_zero, List.set_cons_succ]
                  refine wpAnyH_take (i := 15) (v := _) rfl (by kernel_rfl) (by kernel_rfl) (by kernel_rfl) (fun _ _ _ h => h) (Or.inr ⟨by rfl, rfl⟩) (by assumption) ?_
                  try simp only [Act.put, List.getElem_toArray, List.getElem_cons_succ, List.getElem_cons_zero, List.setIfInBounds_toArray, List.set_cons_zero, List.set_cons_succ]
                  refine wpAnyH_take (i := 16) (v := _) rfl (by kernel_rfl) (by kernel_rfl) (by kernel_rfl) (fun _ _ _ h => h) (Or.inr ⟨by rfl, rfl⟩) (by assumption) ?_
                  try simp only [Act.put, List.getElem_toArray, List.getElem_cons_succ, List.getElem_cons_zero, List.setIfInBounds_toArray, List.set_cons_zero, List.set_cons_succ]
                  refine wpAnyH_take (i := 17) (v := _) rfl (by kernel_rfl) (by kernel_rfl) (by kernel_rfl) (fun _ _ _ h => h) (Or.inr ⟨by rfl, rfl⟩) (by assumption) ?_
                  try simp only [Act.put, List.getElem_toArray, List.getElem_cons_succ, List.getElem_cons_zero, List.setIfInBounds_toArray, List.set_cons_zero, List.set_cons_succ]
                  refine wpAnyH_take (i := 18) (v := _) rfl (by kernel_rfl) (by kernel_rfl) (by kernel_rfl) (fun _ _ _ h => h) (Or.inr ⟨by rfl, rfl⟩) (by assumption) ?_
                  try simp only [Act.put, List.getElem_toArray, List.getElem_cons_succ, List.getElem_cons_zero, List.setIfInBounds_toArray, List.set_cons_zero, List.set_cons_succ]
                  refine wpAnyH_take (i := 19) (v := _) rfl (by kernel_rfl) (by kernel_rfl) (by kernel_rfl) (fun _ _ _ h => h) (Or.inr ⟨by rfl, rfl⟩) (by assumption) ?_
                  try simp only [Act.put, List.getElem_toArray, List.getElem_cons_succ, List.getElem_cons_zero, List.setIfInBounds_toArray, List.set_cons_zero, List.set_cons_succ]
                  refine wpAnyH_take (i := 20) (v := _) rfl (by kernel_rfl) (by kernel_rfl) (by kernel_rfl) (fun _ _ _ h => h) (Or.inr ⟨by rfl, rfl⟩) (by assumption) ?_
                  try simp only [Act.put, List.getElem_toArray, List.getElem_cons_succ, List.getElem_cons_zero, List.setIfInBounds_toArray, List.set_cons_zero, List.set_cons_succ]
                  refine wpAnyH_take (i := 21) (v := ?_) rfl (by kernel_rfl) (by kernel_rfl) (by kernel_rfl) (fun _ _ _ h => h) (Or.inl ⟨by rfl, ?_⟩) (by assumption) ?_
                  rotate_left
                  · intro Wq hSw
                    clear hSw
                    go_simp
                    all_goals (with_reducible rfl)
                  try simp only [Act.put, List.getElem_toArray, List.getElem_cons_succ, List.getElem_cons_zero, List.setIfInBounds_toArray, List.set_cons_zero, List.set_cons_succ]
                  refine wpAnyH_done (by kernel_rfl) ?_ _
                  go_wp2_with fail
                  go_meet
                  case rel => exact ⟨by rw [HD.out], hHeld⟩
                · have HD : Hid (deepB p rs m k = (z == 1)) := by unfold Hid; rw [HDN.out hkm]; by_cases h : z = 1 <;> simp [h]
                  have u1 : ((k : Int) = (m : Int)) = False := eq_false (by omega)
                  have u2 : ((k : Int) != (m : Int)) = true := bne_iff_ne.2 (by omega)
                  have u3 : (k = m) = False := eq_false hkm
                  clear hkm
                  refine wp_region_held_drew (S := fun V => Below WC.heap.size WC V) (by kernel_rfl) ?_ (fun hHeld => ?_)
                  · exact bel_drew WC
                  revert hHeld
                  generalize World.drew _ = W1
                  intro hHeld 
                  refine wpAnyH_take (i := 0) (v := ?_) rfl (by kernel_rfl) (by kernel_rfl) (by kernel_rfl) (fun _ _ _ h => h) (Or.inl ⟨by rfl, ?_⟩) (by assumption) ?_
                  rotate_left
                  · intro Wq hSw
                    clear hSw
                    go_simp
                    all_goals (with_reducible rfl)
                  try simp only [Act.put, List.getElem_toArray, List.getElem_cons_zero, List.setIfInBounds_toArray, List.set_cons_zero, List.set_cons_succ]
                  refine wpAnyH_take (i := 1) (v := ?_) rfl (by kernel_rfl) (by kernel_rfl) (by kernel_rfl) (fun _ _ _ h => h) (Or.inl ⟨by rfl, ?_⟩) (by assumption) ?_
                  rotate_left
                  · intro Wq hSw
                    clear hSw
                    go_simp
                    all_goals (with_reducible rfl)
                  try simp only [Act.put, List.getElem_toArray, List.getElem_cons_succ, List.getElem_cons_zero, List.setIfInBounds_toArray, List.set_cons_zero, List.set_cons_succ]
                  refine wpAnyH_take (i := 2) (v := ?_) rfl (by kernel_rfl) (by kernel_rfl) (by kernel_rfl) (fun _ _ _ h => h) (Or.inl ⟨by rfl, ?_⟩) (by assumption) ?_
                  rotate_left
                  · intro Wq hSw
                    clear hSw
                    go_simp
                    all_goals (with_reducible rfl)
                  try simp only [Act.put, List.getElem_toArray, List.getElem_cons_succ, List.getElem_cons_zero, List.setIfInBounds_toArray, List.set_cons_zero, List.set_cons_succ]
                  refine wpAnyH_take (i := 3) (v := ?_) rfl (by kernel_rfl) (by kernel_rfl) (by kernel_rfl) (fun _ _ _ h => h) (Or.inl ⟨by rfl, ?_⟩) (by assumption) ?_
                  rotate_left
                  · intro Wq hSw
                    clear hSw
                    go_simp
                    all_goals (with_reducible rfl)
                  try simp only [Act.put, List.getElem_toArray, List.getElem_cons_succ, List.getElem_cons_zero, List.setIfInBounds_toArray, List.set_cons_zero, List.set_cons_succ]
                  refine wpAnyH_take (i := 4) (v := ?_) rfl (by kernel_rfl) (by kernel_rfl) (by kernel_rfl) (fun _ _ _ h => h) (Or.inl ⟨by rfl, ?_⟩) (by assumption) ?_
                  rotate_left
                  · intro Wq hSw
                    clear hSw
                    go_simp
                    all_goals (with_reducible rfl)
                  try simp only [Act.put, List.getElem_toArray, List.getElem_cons_succ, List.getElem_cons_zero, List.setIfInBounds_toArray, List.set_cons_zero, List.set_cons_succ]
                  refine wpAnyH_take (i := 5) (v := ?_) rfl (by kernel_rfl) (by kernel_rfl) (by kernel_rfl) (fun _ _ _ h => h) (Or.inl ⟨by rfl, ?_⟩) (by assumption) ?_
                  rotate_left
                  · intro Wq hSw
                    clear hSw
                    go_simp
                    all_goals (with_reducible rfl)
                  try simp only [Act.put, List.getElem_toArray, List.getElem_cons_succ, List.getElem_cons_zero, List.setIfInBounds_toArray, List.set_cons_zero, List.set_cons_succ]
                  refine wpAnyH_take (i := 6) (v := ?_) rfl (by kernel_rfl) (by kernel_rfl) (by kernel_rfl) (fun _ _ _ h => h) (Or.inl ⟨by rfl, ?_⟩) (by assumption) ?_
                  rotate_left
                  · intro Wq hSw
                    clear hSw
                    go_simp
                    all_goals (with_reducible rfl)
                  try simp only [Act.put, List.getElem_toArray, List.getElem_cons_succ, List.getElem_cons_zero, List.setIfInBounds_toArray, List.set_cons_zero, List.set_cons_succ]
                  refine wpAnyH_take (i := 7) (v := ?_) rfl (by kernel_rfl) (by kernel_rfl) (by kernel_rfl) (fun _ _ _ h => h) (Or.inl ⟨by rfl, ?_⟩) (by assumption) ?_
                  rotate_left
                  · intro Wq hSw
                    have b1 : ((k : Int) < (i : Int)) = True := eq_true (by omega)
                    have d1 : (k < i) = True := eq_true (by omega)
                    have c1 : ((0 : Int) ≤ (k : Int)) = True := eq_true (by omega)
                    clear hSw
                    go_simp
                    all_goals (with_reducible rfl)
                  try simp only [Act.put, List.getElem_toArray, List.getElem_cons_succ, List.getElem_cons_zero, List.setIfInBounds_toArray, List.set_cons_zero, List.set_cons_succ]
                  refine wpAnyH_take (i := 8) (v := ?_) rfl (by kernel_rfl) (by kernel_rfl) (by kernel_rfl) (fun _ _ _ h => h) (Or.inl ⟨by rfl, ?_⟩) (by assumption) ?_
                  rotate_left
                  · intro Wq hSw
                    have hx := bl_trans HB9.out hSw
                    have k0 := (hx.cell (cell_lt HK8.out)).trans HK8.out
                    clear hx
                    clear hSw
                    go_simp
                    all_goals (with_reducible rfl)
                  try simp only [Act.put, List.getElem_toArray, List.getElem_cons_succ, List.getElem_cons_zero, List.setIfInBounds_toArray, List.set_cons_zero, List.set_cons_succ]
                  refine wpAnyH_take (i := 10) (v := ?_) rfl (by kernel_rfl) (by kernel_rfl) (by kernel_rfl) (fun _ _ _ h => h) (Or.inl ⟨by rfl, ?_⟩) (by assumption) ?_
                  rotate_left
                  · intro Wq hSw
                    clear hSw
                    go_simp
                    all_goals (with_reducible rfl)
                  try simp only [Act.put, List.getElem_toArray, List.getElem_cons_succ, List.getElem_cons_zero, List.setIfInBounds_toArray, List.set_cons_zero, List.set_cons_succ]
                  refine wpAnyH_take (i := 11) (v := ?_) rfl (by kernel_rfl) (by kernel_rfl) (by kernel_rfl) (fun _ _ _ h => h) (Or.inl ⟨by rfl, ?_⟩) (by assumption) ?_
                  rotate_left
                  · intro Wq hSw
                    clear hSw
                    go_simp
                    all_goals (with_reducible rfl)
                  try simp only [Act.put, List.getElem_toArray, List.getElem_cons_succ, List.getElem_cons_zero, List.setIfInBounds_toArray, List.set_cons_zero, List.set_cons_succ]
                  refine wpAnyH_take (i := 12) (v := ?_) rfl (by kernel_rfl) (by kernel_rfl) (by kernel_rfl) (fun _ _ _ h => h) (Or.inl ⟨by rfl, ?_⟩) (by assumption) ?_
                  rotate_left
                  · intro Wq hSw
                    clear hSw
                    go_simp
                    all_goals (with_reducible rfl)
                  try simp only [Act.put, List.getElem_toArray, List.getElem_cons_succ, List.getElem_cons_zero, List.setIfInBounds_toArray, List.set_cons_zero, List.set_cons_succ]
                  refine wpAnyH_take (i := 13) (v := ?_) rfl (by kernel_rfl) (by kernel_rfl) (by kernel_rfl) (fun _ _ _ h => h) (Or.inl ⟨by rfl, ?_⟩) (by assumption) ?_
                  rotate_left
                  · intro Wq hSw
                    have b1 : ((m : Int) < (i : Int)) = True := eq_true (by omega)
                    have d1 : (m < i) = True := eq_true (by omega)
                    have c1 : ((0 : Int) ≤ (m : Int)) = True := eq_true (by omega)
                    clear hSw
                    go_simp
                    all_goals (with_reducible rfl)
                  try simp only [Act.put, List.getElem_toArray, List.getElem_cons_succ, List.getElem_cons_zero, List.setIfInBounds_toArray, List.set_cons_zero, List.set_cons_succ]
                  refine wpAnyH_take (i := 14) (v := ?_) rfl (by kernel_rfl) (by kernel_rfl) (by kernel_rfl) (fun _ _ _ h => h) (Or.inl ⟨by rfl, ?_⟩) (by assumption) ?_
                  rotate_left
                  · intro Wq hSw
                    have hx := bl_trans HB9.out hSw
                    have k0 := (hx.cell (cell_lt HK5.out)).trans HK5.out
                    clear hx
                    clear hSw
                    go_simp
                    all_goals (with_reducible rfl)
                  try simp only [Act.put, List.getElem_toArray, List.getElem_cons_succ, List.getElem_cons_zero, List.setIfInBounds_toArray, List.set_cons_zero, List.set_cons_succ]
                  refine wpAnyH_take (i := 15) (v := ?_) rfl (by kernel_rfl) (by kernel_rfl) (by kernel_rfl) (fun _ _ _ h => h) (Or.inl ⟨by rfl, ?_⟩) (by assumption) ?_
                  rotate_left
                  · intro Wq hSw
                    have b1 : ((0 : Int) < (R.length : Int)) = True := eq_true (by have := HR1.out; omega)
                    have d1 : (0 < R.length) = True := eq_true HR1.out
                    clear hSw
                    go_simp
                    all_goals (with_reducible rfl)
                  try simp only [Act.put, List.getElem_toArray, List.getElem_cons_succ, List.getElem_cons_zero, List.setIfInBounds_toArray, List.set_cons_zero, List.set_cons_succ]
                  refine wpAnyH_take (i := 16) (v := ?_) rfl (by kernel_rfl) (by kernel_rfl) (by kernel_rfl) (fun _ _ _ h => h) (Or.inl ⟨by rfl, ?_⟩) (by assumption) ?_
                  rotate_left
                  · intro Wq hSw
                    have hx := bl_trans HB9.out hSw
                    have k0 := (hx.cell (cell_lt HX0.out)).trans HX0.out
                    clear hx
                    simp only [Nat.add_zero] at k0
                    clear hSw
                    go_simp
                    all_goals (with_reducible rfl)
                  try simp only [Act.put, List.getElem_toArray, List.getElem_cons_succ, List.getElem_cons_zero, List.setIfInBounds_toArray, List.set_cons_zero, List.set_cons_succ]
                  refine wpAnyH_take (i := 17) (v := ?_) rfl (by kernel_rfl) (by kernel_rfl) (by kernel_rfl) (fun _ _ _ h => h) (Or.inl ⟨by rfl, ?_⟩) (by assumption) ?_
                  rotate_left
                  · intro Wq hSw
                    have b1 : ((a : Int) < (p.length : Int)) = True := eq_true (by omega)
                    have d1 : (a < p.length) = True := eq_true (by omega)
                    have c1 : ((0 : Int) ≤ (a : Int)) = True := eq_true (by omega)
                    clear hSw
                    go_simp
                    all_goals (with_reducible rfl)
                  try simp only [Act.put, List.getElem_toArray, List.getElem_cons_succ, List.getElem_cons_zero, List.setIfInBounds_toArray, List.set_cons_zero, List.set_cons_succ]
                  refine wpAnyH_take (i := 18) (v := ?_) rfl (by kernel_rfl) (by kernel_rfl) (by kernel_rfl) (fun _ _ _ h => h) (Or.inl ⟨by rfl, ?_⟩) (by assumption) ?_
                  rotate_left
                  · intro Wq hSw
                    obtain ⟨k0, k1⟩ := ptRow_at (HP9.out.below (bl_trans HB9.out hSw)) hap HQ.out
                    clear hSw
                    go_simp
                    all_goals (with_reducible rfl)
                  try simp only [Act.put, List.getElem_toArray, List.getElem_cons_succ, List.getElem_cons_zero, List.setIfInBounds_toArray, List.set_cons_zero, List.set_cons_succ]
                  refine r1 (i := 9) rfl (fun K hK => ?_)
                  go_simp
                  (with_reducible refine (HSg.out _ (bl_trans HB9.out hHeld)).mono ?_)
                  rintro e' w2 ⟨v2, rfl, hO⟩
                  have hb1 := hO.hb
                  obtain ⟨al, cl, rfl, -, hL, -⟩ := hO.pts
                  have HL := Lib.hid hL
                  clear hO hL
                  go_wp2_with fail
                  refine hK.out _ _ (bl_trans hHeld hb1) (fun hHeld2 => ?_)
                  clear hK K hHeld
                  have hHeld := hHeld2
                  clear hHeld2
                  try simp only [Act.put, List.getElem_toArray, List.getElem_cons_succ, List.getElem_cons_zero, List.setIfInBounds_toArray, List.set_cons_zero, List.set_cons_succ]
                  refine r1 (i := 19) rfl (fun K hK => ?_)
                  go_simp
                  (with_reducible refine (HWh.out _ _ _ (bl_trans HB9.out hHeld) HL.out).mono ?_)
                  rintro e' wz ⟨rfl, hb1⟩
                  go_wp2_with fail
                  refine hK.out _ _ (bl_trans hHeld hb1) (fun hHeld2 => ?_)
                  clear hK K hHeld
                  have hHeld := hHeld2
                  clear hHeld2
                  try simp only [Act.put, List.getElem_toArray, List.getElem_cons_succ, List.getElem_cons_zero, List.setIfInBounds_toArray, List.set_cons_zero, List.set_cons_succ]
                  refine wpAnyH_take (i := 20) (v := ?_) rfl (by kernel_rfl) (by kernel_rfl) (by kernel_rfl) (fun _ _ _ h => h) (Or.inl ⟨by rfl, ?_⟩) (by assumption) ?_
                  rotate_left
                  · intro Wq hSw
                    clear hSw
                    go_simp
                    all_goals (with_reducible rfl)
                  try simp only [Act.put, List.getElem_toArray, List.getElem_cons_succ, List.getElem_cons_zero, List.setIfInBounds_toArray, List.set_cons_zero, List.set_cons_succ]
                  refine wpAnyH_take (i := 21) (v := ?_) rfl (by kernel_rfl) (by kernel_rfl) (by kernel_rfl) (fun _ _ _ h => h) (Or.inl ⟨by rfl, ?_⟩) (by assumption) ?_
                  rotate_left
                  · intro Wq hSw
                    clear hSw
                    go_simp
                    all_goals (with_reducible rfl)
                  try simp only [Act.put, List.getElem_toArray, List.getElem_cons_succ, List.getElem_cons_zero, List.setIfInBounds_toArray, List.set_cons_zero, List.set_cons_succ]
                  refine wpAnyH_done (by kernel_rfl) ?_ _
                  go_wp2_with fail
                  go_meet
                  case rel => exact ⟨by rw [HD.out], hHeld⟩
              case rest =>
              obtain ⟨rfl, hbc⟩ := hcut
              replace HBA := Lib.hid (bl_trans HBA.out hbc)
              clear hbc HB9 HSg HWh HDN HK8
              obtain ⟨n1, n2, n3, n4⟩ := N1.out
              obtain ⟨l1, l2, l3, l4⟩ := L1.out
              obtain ⟨db, hdb⟩ : ∃ b, deepB p rs m k = b := ⟨_, rfl⟩
              rw [hdb] at HCt ⊢
              clear hdb
              cases db
              · have HC2 : Hid (cntN (deepB p rs m) (k + 1) = ct) := HCt.out
                go_wp2_with fail
                clear n1 n2 n3 n4 l1 l2 l3 l4
                exact ⟨⟨k + 1, hkl, by rw [Int.natCast_add]; rfl, by rw [HC2.out], HBA.out⟩, by simp [intOf]; omega⟩
              · have HC2 : Hid (cntN (deepB p rs m) (k + 1) = ct + 1) := HCt.out
                go_wp2_with fail
                clear n1 n2 n3 n4 l1 l2 l3 l4
                exact ⟨⟨k + 1, hkl, by rw [Int.natCast_add]; rfl, by rw [HC2.out, Int.natCast_add]; rfl, HBA.out⟩, by simp [intOf]; omega⟩
            · obtain rfl : k = i := by omega
              have t1 : ((k : Int) < (k : Int)) = False := eq_false (by omega)
              have HO3 := Lib.hid (HOi.out.below HBA.out)
              obtain ⟨ct, hct⟩ : ∃ c, cntN (deepB p rs m) k = c := ⟨_, rfl⟩
              have HSn : Hid ((deepL p rs).take m ++ [(ct : Int)] = (deepL p rs).take (m + 1)) := by
                unfold Hid
                rw [List.take_succ_eq_append_getElem (by rw [deepL_len]; exact hmr)]
                have h2 := deepL_at p hmr
                have h3 : m < (deepL p rs).length := by rw [deepL_len]; exact hmr
                have h4 : (deepL p rs)[m] = (ct : Int) := by
                  rw [HN.out, hct] at h2
                  simpa [List.getD, h3] using h2
                rw [h4]
              have hln : ((deepL p rs).take m).length ≤ 10000 := by rw [List.length_take, deepL_len]; have := HN.out; omega
              rw [hct]
              have N1 := Lib.hid (wnum (i := m) (by omega))
              have HLn := Lib.hid hln
              clear hct hln
              go_wp2_with (at_builtin; refine app_ints rfl _ _ rfl rfl (HO3.out.alloc _) rfl (L := [(ct : Int)]) rfl (intRow_n1 _ _ _) (fun h => by cases h) ?x1 ?_)
              case x1 => have := HLn.out; simp only [List.length_singleton]; omega
              intro v3 w6 hO3
              have HO4 := Lib.hid (hO3.congr HSn.out)
              clear hO3 HO3 HOi
              obtain ⟨n1, n2, n3, n4⟩ := N1.out
              go_wp2_with fail
              clear n1 n2 n3 n4
              exact ⟨⟨m + 1, hml, by rw [Int.natCast_add]; rfl, HO4.out⟩, by simp [intOf]; omega⟩
        · obtain rfl : m = i := by omega
          have p1 : ((m : Int) < (m : Int)) = False := eq_false (by omega)
          rw [List.take_of_length_le (by rw [deepL_len, HN.out]; exact Nat.le_refl _)] at HOi
          have HBf := Lib.hid (bl_trans HB.out HOi.out.hb)
          go_wp2_with fail
          go_ret2
          exact ⟨_, by rw [HYes.out.2]; rfl, by rw [HYes.out.1]; exact HOi.out.ints, HBf.out⟩
end Go.Proofs.Ytkidphekfnmhhaa
