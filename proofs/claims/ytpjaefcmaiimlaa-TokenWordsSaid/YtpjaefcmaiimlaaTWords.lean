/-
  The walk of the law TokenWords.
-/
import Derived.Test.YtpjaefcmaiimlaaTCuts
set_option linter.unusedVariables false
set_option linter.unusedSimpArgs false
set_option linter.deprecated false
namespace Go.Proofs.Ytpjaefcmaiimlaa
open Go.RowKit Go.Shelf

attribute [local go_sem] Oper.semAt_some

set_option maxRecDepth 100000 in
theorem eql_seq_nil (f : Fn) (x y : Array Value) (w : World) : (binOp .eql 28 (.func f x y) .nilFunc).run Try.prog w = .ok (.bool false) w := by
  kernel_rfl
attribute [local go_sem] eql_seq_nil

set_option maxHeartbeats 2000000 in
set_option maxRecDepth 100000 in
theorem twords_big (ad : Option Addr) (len cap : Nat) (h : 5000 < len) (z : Int) (w : World) :
    Calls Try.prog 3 #[.slice ad len cap, .int .i64 z] w (Gives (.bool true) w) := by
  have h1 : (5000 : Int) < (len : Int) := by omega
  go_enter Try.func3, Try.ntmps3
  go_wp2_with (first
    | (go_at_call 13; (with_reducible refine (known_c _).mono ?_); rintro e w5 ⟨rfl, hb5⟩)
    | go_in)
  go_ret
  exact ⟨rfl, hb5⟩
/-- words of a text -/
def wl (s : ByteArray) (l : List (Nat × Nat)) : List (Nat × ByteArray) := l.map fun x => (x.1, s.extract x.1 x.2)
theorem wl_toks (s : ByteArray) : wl s (toks (nums s)) = wordsOf s := rfl
theorem own_cells3 {W : World} {B : Nat} {v : Value} {s : ByteArray} {l : List (Nat × Nat)} (hr : W.ownsRow B 32 2 v l.length (tokVals s l)) :
    ∃ ad cp, v = .slice ad (wl s l).length cp ∧ TokCells W ad (wl s l) ∧ (wl s l).length ≤ cp := by
  have hlen : (wl s l).length = l.length := by simp [wl]
  rw [hlen]
  rcases hr.2 with ⟨rfl, h0⟩ | ⟨g, cp, cur, rfl, h1, h2, h3, h4⟩
  · rw [h0]
    refine ⟨none, 0, rfl, fun i hi => ?_, Nat.le_refl _⟩
    rw [hlen, h0] at hi
    omega
  · refine ⟨_, cp, rfl, fun i hi => ?_, h3⟩
    have hi' : i < l.length := by rw [← hlen]; exact hi
    obtain ⟨e1, e2⟩ := tokVals_get s l i hi'
    refine ⟨g, 0, rfl, ?_, ?_⟩
    · rw [Nat.zero_add, hr.cellAt (i * 2) (by omega), e1]
      simp [wl]
    · rw [Nat.zero_add, hr.cellAt (i * 2 + 1) (by omega), e2]
      simp [wl]
theorem refAll_w2 (ad : Option Addr) (cap : Nat) (s : ByteArray) (hl : s.size ≤ 1048576) (hcap : s.size ≤ cap) (w : World) (hB : BytesIn w ad s) :
    Calls Try.prog 14 #[.slice ad s.size cap] w fun e W' => ∃ ad' cp, e = .returned (.tuple #[.slice ad' (wordsOf s).length cp, .int .i64 0]) ∧ TokCells W' ad' (wordsOf s) ∧ (wordsOf s).length ≤ cp ∧ Below w.heap.size w W' := by
  refine (refAll_c ad cap s hl hcap w hB).mono ?_
  rintro e W' ⟨v, rfl, hT⟩
  obtain ⟨ad', cp, rfl, h, h2⟩ := own_cells3 hT.own
  exact ⟨ad', cp, rfl, h, h2, hT.hb⟩
theorem TokCells.take {w : World} {ad : Option Addr} {ts : List (Nat × ByteArray)} (h : TokCells w ad ts) (k : Nat) : TokCells w ad (ts.take k) := by
  intro i hi
  rw [List.length_take] at hi
  obtain ⟨g, o, e, h1, h2⟩ := h i (by omega)
  exact ⟨g, o, e, by rw [List.getElem_take]; exact h1, by rw [List.getElem_take]; exact h2⟩
theorem kmod (z : Int) (L : Nat) (hL : L ≤ 6000) : ∃ N k : Nat, (L : Int) + 2 = (N : Int) ∧ k < N ∧ N = L + 2 ∧ wrap64 (N : Int) = (N : Int) ∧ IntKind.u64.wrap (N : Int) = (N : Int) ∧ Int.tmod (IntKind.u64.wrap z) (N : Int) = (k : Int) ∧ IntKind.i64.wrap (k : Int) = (k : Int) := by
  have h1 : 0 ≤ IntKind.u64.wrap z := by rw [IntKind.wrap_u64]; exact Int.emod_nonneg _ (by omega)
  generalize IntKind.u64.wrap z = m at *
  have h2 := Int.emod_nonneg m (show ((L + 2 : Nat) : Int) ≠ 0 by omega)
  have h3 := Int.emod_lt_of_pos m (show (0 : Int) < ((L + 2 : Nat) : Int) by omega)
  refine ⟨L + 2, (m % ((L + 2 : Nat) : Int)).toNat, by omega, by omega, rfl, by unfold wrap64; omega, by rw [IntKind.wrap_u64]; omega, ?_, IntWalk.i64_in _ (by omega)⟩
  rw [Int.tmod_eq_emod_of_nonneg h1]
  omega
set_option maxHeartbeats 4000000 in
set_option maxRecDepth 100000 in
theorem twords_c (ad : Option Addr) (cap : Nat) (s : ByteArray) (hcap : s.size ≤ cap) (h5 : s.size ≤ 5000) (z : Int) (w : World) (hB : BytesIn w ad s) :
    Calls Try.prog 3 #[.slice ad s.size cap, .int .i64 z] w (Gives (.bool true) w) := by
  have HB := Lib.hid hB
  have HT : Hid (TextOf w (.slice ad s.size cap) s) := text_of hB
  have HL := Lib.hid (words_len s)
  clear hB
  obtain ⟨L, hL⟩ : ∃ L, (wordsOf s).length = L := ⟨_, rfl⟩
  have hLs : L ≤ s.size + 1 := by rw [← hL]; exact HL.out
  have HLL := Lib.hid hL
  have htl : (toks (nums s)).length ≤ 5001 := by have h := HLL.out; rw [← wl_toks] at h; unfold wl at h; rw [List.length_map] at h; omega
  obtain ⟨N, k, n1, n2, n3, n4, n5, n6, n7⟩ := kmod z L (by omega)
  have h1' : (s.size : Int) ≤ 5000 := by omega
  have n8 : (N = 0) = False := eq_false (by omega)
  have HN := Lib.hid (And.intro n2 n3)
  clear hL n2 n3 hLs
  obtain ⟨i0, hi, hz0, hz1, hz2⟩ := info_parts info_tok
  refine (callsIn_wide (n := 4)).1 ?_
  refine callsIn_of_wp_marks Try.func3 rfl trivial ?_ rfl
  simp only [Try.ntmps3, List.size_toArray, List.length_cons, List.length_nil, Nat.reduceAdd, Nat.reduceSub, Array.replicate_succ, Array.replicate_zero, List.push_toArray, List.append_toArray, List.nil_append, List.cons_append]
  gi_wp2_with (first
    | (refine ⟨trivial, ?_⟩; gi_at_call 14; refine (callsIn_wide.2 (refAll_w2 ad cap s (by omega) hcap _ HB.out)).mono ?_; rintro e w1 ⟨a2, c2, rfl, hT2, hcp2, hb2⟩
       have HT2 := Lib.hid hT2
       have HB2 := Lib.hid hb2
       rw [HLL.out] at hcp2
       have HCP := Lib.hid hcp2
       rw [HLL.out]
       clear hT2 hb2 hcp2)
    | (refine ⟨trivial, ?_⟩; gi_at_call 15; refine (callsIn_wide.2 (words_c ad s.size cap s (by omega) _ (HT.out _ HB2.out))).mono ?_; rintro e w' ⟨rfl, rfl⟩))
  refine wpIn_loop_rounds 3 ?_
  rw [roundsIn_succ]
  gi_wp2
  clear n1 n4 n5 n6 n7 n8
  obtain ⟨W0, hW0⟩ : ∃ W0, ((w1.alloc (.cells #[.string s] 9)).alloc (.cells #[.int .i64 (k : Int)] 3)).alloc (.cells #[.int .i64 0] 3) = W0 := ⟨_, rfl⟩
  have bT : Boxed W0 w1.heap.size 9 (.string s) := by rw [← hW0]; exact ((Boxed.new w1 _ _).alloc _).alloc _
  have bK : Boxed W0 (w1.heap.size + 1) 3 (.int .i64 (k : Int)) := by
    have h := (Boxed.new (w1.alloc (.cells #[.string s] 9)) 3 (.int .i64 (k : Int))).alloc (.cells #[.int .i64 0] 3)
    rw [World.size_alloc, hW0] at h
    exact h
  have bR : Boxed W0 (w1.heap.size + 1 + 1) 3 (.int .i64 0) := by
    have h := Boxed.new ((w1.alloc (.cells #[.string s] 9)).alloc (.cells #[.int .i64 (k : Int)] 3)) 3 (.int .i64 0)
    rw [World.size_alloc, World.size_alloc, hW0] at h
    exact h
  have hn0' : w1.heap.size + 1 + 1 + 1 = W0.heap.size := by rw [← hW0]; simp
  have hb0 : Below w1.heap.size w1 W0 := by rw [← hW0]; exact (((Below.refl _ w1).alloc (Nat.le_refl _) _).alloc (by simp) _).alloc (by simp; omega) _
  have HB0 := Lib.hid (bl_trans HB2.out hb0)
  have HT0 := Lib.hid (HT2.out.below hb0)
  rw [hW0, hn0']
  clear hW0 hb0 HT2 HB2 hn0'
  generalize w1.heap.size = Bt at *
  generalize hn0 : W0.heap.size = n0 at *
  refine wpIn_rangeFunc_ownG rfl (by omega) (gf := 47) (lb := #[.pointer (some ⟨Bt, 0, none⟩)]) rfl trivial (enters_of Try.func47 (by kernel_rfl) rfl)
    (words_stops _ (by omega) Bt n0 s (by omega) _ (bT.alloc _)) kpT_t (kpT_b (by simp; omega) (by simp; have := bT.lt; omega)) (Below.refl _ _) (fun _ => rfl)
    (fun pre W => (∃ v, Boxed W n0 24 v ∧ W.ownsRow n0 32 2 v pre.length (tokVals s pre) ∧ (v = .slice none 0 0 ↔ pre = [])) ∧ Boxed W Bt 9 (.string s) ∧ pre.length ≤ k ∧ Below n0 W0 W)
    (fun c pre W => c = .exit 2 ∧ ∃ q, (∃ x, pre = q ++ [x]) ∧ q.length = k ∧ (∃ v, Boxed W n0 24 v ∧ W.ownsRow n0 32 2 v q.length (tokVals s q) ∧ (v = .slice none 0 0 ↔ q = [])) ∧ Below n0 W0 W)
    (OwnFrom.and (Own.from (holdsRow_own n0 n0 24 32 2 (fun pre => pre.length) (fun pre => tokVals s pre) (fun pre v => v = .slice none 0 0 ↔ pre = [])) _) (OwnFrom.and (Own.from (boxed_own _ _ (fun _ => .string s)) _) (OwnFrom.and (fun _ _ _ _ hs _ _ => hs) (ownFrom_below (by omega) (by simp; omega)))))
    (fun c pr A B row hs hg hr => by obtain ⟨hc, q, hx, hq, hb, hbl⟩ := hs; exact ⟨hc, q, hx, hq, holdsRow_own n0 n0 24 32 2 (fun pre => pre.length) (fun pre => tokVals s pre) (fun pre v => v = .slice none 0 0 ↔ pre = []) q A B row hb hg (fun r e => (hr r e).2), ownFrom_below (β := List (Nat × Nat)) (n₀ := n0) (B := (W0.alloc (.cells #[.slice none 0 0] 24)).heap.size) (w₀ := W0) (by omega) (by simp; omega) q A B row hbl hg hr⟩)
    ⟨⟨_, by rw [← hn0]; exact Boxed.new W0 24 (.slice none 0 0), World.ownsRow_nil _ _ _ _, by simp⟩, bT.alloc _, Nat.zero_le _, by rw [← hn0]; exact (Below.refl _ W0).alloc (Nat.le_refl _) _⟩
    ?aa ?assign ?body ?done ?stop
  case assign =>
    intro l x W K hK
    gi_wp2
    exact hK
  case body =>
    rintro l pre x W ⟨⟨v, hv, hrow, hnil⟩, hX, hp, hBl⟩ hlt
    have hsz : n0 ≤ W.heap.size := by have := hBl.size; omega
    have cK : W.cell? ⟨Bt + 1, 0, none⟩ = some (.int .i64 (k : Int)) := (hBl.cell (p := ⟨Bt + 1, 0, none⟩) (by have := bK.lt; dsimp only; omega)).trans bK.cell
    have cR : W.cell? ⟨Bt + 1 + 1, 0, none⟩ = some (.int .i64 0) := (hBl.cell (p := ⟨Bt + 1 + 1, 0, none⟩) (by have := bR.lt; dsimp only; omega)).trans bR.cell
    obtain ⟨av, cv, ev, -, -⟩ := own_cells3 hrow
    rw [show (wl s pre).length = pre.length by simp [wl]] at ev
    subst ev
    have hc := hv.cell
    by_cases hk : pre.length = k
    · have d1 : (pre.length = k) = True := eq_true hk
      have d2 : ((pre.length : Int) = (k : Int)) = True := eq_true (by omega)
      have d3 : ((pre.length : Int) == (k : Int)) = true := by rw [hk]; simp
      gi_wp2
      exact ⟨(KeepsOthers.refl _).from _, rfl, pre, ⟨x, rfl⟩, hk, ⟨_, hv, hrow, hnil⟩, hBl⟩
    · have d1 : (pre.length = k) = False := eq_false hk
      have d2 : ((pre.length : Int) = (k : Int)) = False := eq_false (by omega)
      have d3 : ((pre.length : Int) == (k : Int)) = false := beq_eq_false_iff_ne.2 (by omega)
      have hnl := bT.lt
      gi_wp2_with (gi_at_builtin; refine wpListIn_append_own _ rfl _ _ 24 rfl n0 32 i0 (.agg #[.int .i64 0, .string ⟨#[]⟩]) 2 24 Try.underlying24 hi hz0 hz1 hz2 rfl (by decide) _ _ _ rfl (hrow.alloc _) ⟨W.heap.size, 0, none⟩ 1 1 [.int .i64 (x.1 : Int), .string (s.extract x.1 x.2)] rfl rfl (cells_two_new _ _ _ _) (by simp [Value.oneCell']) (by unfold maxLen; omega) (by omega) (by simp; omega) ?_; intro v' w1' hown' hgrow _; obtain ⟨g', cap', rfl⟩ := ownsRow_succ hown'; obtain ⟨hv1, hv2, hr2, hk2, hb2⟩ := hv.appended (by decide) hrow hsz (Nat.le_refl _) hown' hgrow; have hX1 := ((hX.alloc _).kept hgrow (hX.not_row (by decide) hrow)).other (B' := n0) (by omega); have hc1 := hv1.cell; have hf1 := hv1.frozen)
      exact ⟨hk2.from _, ⟨hb2, fun _ => hX1 _⟩, ⟨_, hv2, by rw [tokVals_snoc]; simpa using hr2, by simp⟩, hX1 _, by simp; omega, hBl.trans hb2⟩
  case done =>
    rintro D ys W hD rfl ⟨⟨v, hv, hrow, hnil⟩, hX, hp, hBl⟩ hK
    have hsz : n0 ≤ W.heap.size := by have := hBl.size; omega
    have cK : W.cell? ⟨Bt + 1, 0, none⟩ = some (.int .i64 (k : Int)) := (hBl.cell (p := ⟨Bt + 1, 0, none⟩) (by have := bK.lt; dsimp only; omega)).trans bK.cell
    have cR : W.cell? ⟨Bt + 1 + 1, 0, none⟩ = some (.int .i64 0) := (hBl.cell (p := ⟨Bt + 1 + 1, 0, none⟩) (by have := bR.lt; dsimp only; omega)).trans bR.cell
    obtain ⟨av, cv, ev, hTv, -⟩ := own_cells3 hrow
    have he : (wl s (toks (nums s))).length = L := HLL.out
    have hel : (toks (nums s)).length = L := by rw [← he]; simp [wl]
    rw [he] at ev
    subst ev
    have hc := hv.cell
    have hLk : L ≤ k := by omega
    have e1 : ((0 : Int) ≤ (L : Int)) = True := eq_true (by omega)
    have e2 : ((L : Int) ≤ (c2 : Int)) = True := eq_true (by have := HCP.out; omega)
    have e3 : (L ≤ c2) = True := eq_true HCP.out
    have hT2 := HT0.out.below (show Below W0.heap.size W0 W by rw [hn0]; exact hBl)
    have hsm := same_c av a2 cv c2 (wordsOf s) (by have := HLL.out; have := HL.out; omega) W hTv hT2
    rw [HLL.out] at hsm
    have HSm := Lib.hid hsm
    have HTL := Lib.hid htl
    clear hsm he hel hp hTv hT2 hnil hrow hX htl
    rcases (show L < k ∨ L = k by omega) with hlk | rfl
    · have e4 : (L < k) = True := eq_true hlk
      gi_wp2_with (refine ⟨trivial, ?_⟩; gi_at_call 16; refine (callsIn_wide.2 HSm.out).mono ?_; rintro e w4 ⟨rfl, hm⟩
                   have HB4 : Hid (Below W.heap.size W w4) := by
                     obtain ⟨m, rfl⟩ := hm
                     exact below_drewN' (Below.refl _ _) _
                   have cR4 : w4.cell? ⟨Bt + 1 + 1, 0, none⟩ = some (.int .i64 0) := (HB4.out.cell (p := ⟨Bt + 1 + 1, 0, none⟩) (by have := bR.lt; dsimp only; omega)).trans cR
                   clear hm)

      rw [roundsIn_succ]
      gi_wp2
      have bT4 : Boxed w4 Bt 9 (.string s) := (HB4.out.block Bt (by have := bT.lt; omega)).trans ((hBl.block Bt (by have := bT.lt; omega)).trans bT)
      have bK4 : Boxed w4 (Bt + 1) 3 (.int .i64 (k : Int)) := (HB4.out.block (Bt + 1) (by have := bK.lt; omega)).trans ((hBl.block (Bt + 1) (by have := bK.lt; omega)).trans bK)
      have hDl : D < W.heap.size := (Array.getElem?_eq_some_iff.1 hK).1
      have HK4 : Hid (w4.heap[D]? = some (.deferred (some []))) := (HB4.out.block D hDl).trans hK
      have HT4 : Hid (TokCells w4 a2 (wordsOf s)) := (HT0.out.below (show Below W0.heap.size W0 W by rw [hn0]; exact hBl)).below HB4.out
      have HBB : Hid (Below w.heap.size w w4) := bl_trans (bl_trans HB0.out (show Below W0.heap.size W0 W by rw [hn0]; exact hBl)) HB4.out
      have HDw : Hid (w.heap.size ≤ D) := by have := HB0.out.size; have := hD; simp at this; show w.heap.size ≤ D; omega
      have hDw : D < w4.heap.size := Nat.lt_of_lt_of_le hDl HB4.out.size
      obtain ⟨W1, hW1⟩ : ∃ W1, w4.alloc (.cells #[.int .i64 1] 3) = W1 := ⟨_, rfl⟩
      have bT1 : Boxed W1 Bt 9 (.string s) := by rw [← hW1]; exact bT4.alloc _
      have bK1 : Boxed W1 (Bt + 1) 3 (.int .i64 (k : Int)) := by rw [← hW1]; exact bK4.alloc _
      have bR1 : Boxed W1 w4.heap.size 3 (.int .i64 1) := by rw [← hW1]; exact Boxed.new w4 _ _
      have HK1 : Hid (W1.heap[D]? = some (.deferred (some []))) := by
        have h := (bl_one w4 (.cells #[.int .i64 1] 3)).block D hDw
        rw [hW1] at h
        exact h.trans HK4.out
      have HT1 : Hid (TokCells W1 a2 (wordsOf s)) := by rw [← hW1]; exact HT4.out.below (bl_one w4 _)
      have HBB1 : Hid (Below w.heap.size w W1) := by rw [← hW1]; exact bl_trans HBB.out (bl_one w4 _)
      have hn1' : w4.heap.size + 1 = W1.heap.size := by rw [← hW1]; simp
      have hbw : w4.heap.size < W1.heap.size := by omega
      have htl : (toks (nums s)).length ≤ 5001 := HTL.out
      rw [hW1, hn1']
      clear hW1 hn1' bT4 bK4 HK4 HT4 HBB hv hc cK cR cR4 hBl hK hD hsz HB4 HSm
      generalize w4.heap.size = Bs at *
      generalize hn1 : W1.heap.size = n1 at *
      refine wpIn_rangeFunc_ownG rfl (by omega) (gf := 47) (lb := #[.pointer (some ⟨Bt, 0, none⟩)]) rfl trivial (enters_of Try.func47 (by kernel_rfl) rfl)
        (words_stops _ (by omega) Bt n1 s (by omega) _ (bT1.alloc _)) kpT_t (kpT_b (by simp; omega) (by simp; have := bT1.lt; omega)) (Below.refl _ _) (fun _ => rfl)
        (fun pre W => (∃ v, Boxed W n1 24 v ∧ W.ownsRow n1 32 2 v pre.length (tokVals s pre) ∧ (v = .slice none 0 0 ↔ pre = [])) ∧ Boxed W Bt 9 (.string s) ∧ True ∧ Below n1 W1 W)
        (fun c pre W => False)
        (OwnFrom.and (Own.from (holdsRow_own n1 n1 24 32 2 (fun pre => pre.length) (fun pre => tokVals s pre) (fun pre v => v = .slice none 0 0 ↔ pre = [])) _) (OwnFrom.and (Own.from (boxed_own _ _ (fun _ => .string s)) _) (OwnFrom.and (fun _ _ _ _ hs _ _ => hs) (ownFrom_below (by omega) (by simp; omega)))))
        (fun _ _ _ _ _ hs _ _ => hs)
        ⟨⟨_, by rw [← hn1]; exact Boxed.new W1 24 (.slice none 0 0), World.ownsRow_nil _ _ _ _, by simp⟩, bT1.alloc _, trivial, by rw [← hn1]; exact (Below.refl _ W1).alloc (Nat.le_refl _) _⟩
        ?abx ?assign1x ?body1x ?done1x ?stop1x
      case assign1x =>
        intro l x W K hK
        gi_wp2
        exact hK
      case body1x =>
        rintro l pre x W ⟨⟨v, hv, hrow, hnil⟩, hX, -, hBl⟩ hlt
        have hsz : n1 ≤ W.heap.size := by have := hBl.size; omega
        have cK : W.cell? ⟨Bt + 1, 0, none⟩ = some (.int .i64 (k : Int)) := (hBl.cell (p := ⟨Bt + 1, 0, none⟩) (by have := bK1.lt; dsimp only; omega)).trans bK1.cell
        have cR : W.cell? ⟨Bs, 0, none⟩ = some (.int .i64 1) := (hBl.cell (p := ⟨Bs, 0, none⟩) (by dsimp only; omega)).trans bR1.cell
        obtain ⟨av, cv, ev, -, -⟩ := own_cells3 hrow
        rw [show (wl s pre).length = pre.length by simp [wl]] at ev
        subst ev
        have hc := hv.cell
        have hnl := bT1.lt
        by_cases hk : pre.length = k
        · have d1 : (pre.length = k) = True := eq_true hk
          have d2 : ((pre.length : Int) = (k : Int)) = True := eq_true (by omega)
          have d3 : ((pre.length : Int) == (k : Int)) = true := by rw [hk]; simp
          clear hk
          gi_wp2_with (gi_at_builtin; refine wpListIn_append_own _ rfl _ _ 24 rfl n1 32 i0 (.agg #[.int .i64 0, .string ⟨#[]⟩]) 2 24 Try.underlying24 hi hz0 hz1 hz2 rfl (by decide) _ _ _ rfl (hrow.alloc _) ⟨W.heap.size, 0, none⟩ 1 1 [.int .i64 (x.1 : Int), .string (s.extract x.1 x.2)] rfl rfl (cells_two_new _ _ _ _) (by simp [Value.oneCell']) (by unfold maxLen; omega) (by omega) (by simp; omega) ?_; intro v' w1' hown' hgrow _; obtain ⟨g', cap', rfl⟩ := ownsRow_succ hown'; obtain ⟨hv1, hv2, hr2, hk2, hb2⟩ := hv.appended (by decide) hrow hsz (Nat.le_refl _) hown' hgrow; have hX1 := ((hX.alloc _).kept hgrow (hX.not_row (by decide) hrow)).other (B' := n1) (by omega); have hc1 := hv1.cell; have hf1 := hv1.frozen)
          exact ⟨hk2.from _, ⟨hb2, fun _ => hX1 _⟩, ⟨_, hv2, by rw [tokVals_snoc]; simpa using hr2, by simp⟩, hX1 _, trivial, hBl.trans hb2⟩
        · have d1 : (pre.length = k) = False := eq_false hk
          have d2 : ((pre.length : Int) = (k : Int)) = False := eq_false (by omega)
          have d3 : ((pre.length : Int) == (k : Int)) = false := beq_eq_false_iff_ne.2 (by omega)
          gi_wp2_with (gi_at_builtin; refine wpListIn_append_own _ rfl _ _ 24 rfl n1 32 i0 (.agg #[.int .i64 0, .string ⟨#[]⟩]) 2 24 Try.underlying24 hi hz0 hz1 hz2 rfl (by decide) _ _ _ rfl (hrow.alloc _) ⟨W.heap.size, 0, none⟩ 1 1 [.int .i64 (x.1 : Int), .string (s.extract x.1 x.2)] rfl rfl (cells_two_new _ _ _ _) (by simp [Value.oneCell']) (by unfold maxLen; omega) (by omega) (by simp; omega) ?_; intro v' w1' hown' hgrow _; obtain ⟨g', cap', rfl⟩ := ownsRow_succ hown'; obtain ⟨hv1, hv2, hr2, hk2, hb2⟩ := hv.appended (by decide) hrow hsz (Nat.le_refl _) hown' hgrow; have hX1 := ((hX.alloc _).kept hgrow (hX.not_row (by decide) hrow)).other (B' := n1) (by omega); have hc1 := hv1.cell; have hf1 := hv1.frozen)
          exact ⟨hk2.from _, ⟨hb2, fun _ => hX1 _⟩, ⟨_, hv2, by rw [tokVals_snoc]; simpa using hr2, by simp⟩, hX1 _, trivial, hBl.trans hb2⟩
      case done1x =>
        rintro D2 ys W hD rfl ⟨⟨v, hv, hrow, hnil⟩, hX, -, hBl⟩ hK
        have hsz : n1 ≤ W.heap.size := by have := hBl.size; omega
        have cR : W.cell? ⟨Bs, 0, none⟩ = some (.int .i64 1) := (hBl.cell (p := ⟨Bs, 0, none⟩) (by dsimp only; omega)).trans bR1.cell
        obtain ⟨av, cv, ev, hTv, -⟩ := own_cells3 hrow
        have he : (wl s (toks (nums s))).length = L := HLL.out
        rw [he] at ev
        subst ev
        have hc := hv.cell
        have hBW : Below W1.heap.size W1 W := by rw [hn1]; exact hBl
        have hT2 := HT1.out.below hBW
        have hsm := same_c av a2 cv c2 (wordsOf s) (by have := HLL.out; have := HL.out; omega) W hTv hT2
        rw [HLL.out] at hsm
        have HSm := Lib.hid hsm
        have HBW := Lib.hid hBW
        clear hsm he hTv hT2 hnil hrow hX htl hBW
        gi_wp2_with (refine ⟨trivial, ?_⟩; gi_at_call 16; refine (callsIn_wide.2 HSm.out).mono ?_; rintro e w4 ⟨rfl, hm⟩
                     have HB4 : Hid (Below W.heap.size W w4) := by
                       obtain ⟨m, rfl⟩ := hm
                       exact below_drewN' (Below.refl _ _) _
                     have cR4 : w4.cell? ⟨Bs, 0, none⟩ = some (.int .i64 1) := (HB4.out.cell (p := ⟨Bs, 0, none⟩) (by dsimp only; omega)).trans cR
                     clear hm)
        rw [roundsIn_succ]
        gi_wp2_with (refine ⟨trivial, ?_⟩; gi_at_call 13; refine (callsIn_wide.2 (known_c _)).mono ?_; rintro e w5 ⟨rfl, hb5⟩)
        have hDl : D2 < W.heap.size := (Array.getElem?_eq_some_iff.1 hK).1
        have hb6 := bl_trans (bl_one w4 (.cells #[.int .i64 2] 3)) hb5
        have hK5 : w5.heap[D2]? = some (.deferred (some [])) := (hb6.block D2 (Nat.lt_of_lt_of_le hDl HB4.out.size)).trans ((HB4.out.block D2 hDl).trans hK)
        have hD5 : D < W1.heap.size := (Array.getElem?_eq_some_iff.1 HK1.out).1
        have hDw5 : D < W.heap.size := Nat.lt_of_lt_of_le hD5 HBW.out.size
        have hK6 : w5.heap[D]? = some (.deferred (some [])) := (hb6.block D (Nat.lt_of_lt_of_le hDw5 HB4.out.size)).trans ((HB4.out.block D hDw5).trans ((HBW.out.block D hD5).trans HK1.out))
        have hBz := bl_trans (bl_trans (bl_trans HBB1.out HBW.out) HB4.out) hb6
        have hbP := belowK_b (w := W1) (Nat.le_refl _) w5 D2 _ (.deferred none) (by simp at hD; omega) hK5 rfl rfl
        have hK7 := (hbP.block D hD5).trans hK6
        refine ⟨by simp, .inl ⟨_, _, rfl, run_takeDeferred hK5, ⟨by simp, .inl ⟨_, _, rfl, run_takeDeferred hK7, ?_⟩⟩⟩⟩
        exact ⟨_, results_tmp rfl _ _ _, rfl, (hBz.trans (hbP.mono HBB1.out.size)).trans (belowK_b (w := w) (Nat.le_refl _) _ D _ _ HDw.out hK7 rfl rfl)⟩
      case stop1x =>
        rintro D c pre W _ _ h _
        exact h.elim
    · have e4 : (L < L) = False := eq_false (Nat.lt_irrefl _)
      gi_wp2_with (refine ⟨trivial, ?_⟩; gi_at_call 16; refine (callsIn_wide.2 HSm.out).mono ?_; rintro e w4 ⟨rfl, hm⟩
                   have HB4 : Hid (Below W.heap.size W w4) := by
                     obtain ⟨m, rfl⟩ := hm
                     exact below_drewN' (Below.refl _ _) _
                   have cR4 : w4.cell? ⟨Bt + 1 + 1, 0, none⟩ = some (.int .i64 0) := (HB4.out.cell (p := ⟨Bt + 1 + 1, 0, none⟩) (by have := bR.lt; dsimp only; omega)).trans cR
                   clear hm)

      rw [roundsIn_succ]
      gi_wp2
      have bT4 : Boxed w4 Bt 9 (.string s) := (HB4.out.block Bt (by have := bT.lt; omega)).trans ((hBl.block Bt (by have := bT.lt; omega)).trans bT)
      have bK4 : Boxed w4 (Bt + 1) 3 (.int .i64 (L : Int)) := (HB4.out.block (Bt + 1) (by have := bK.lt; omega)).trans ((hBl.block (Bt + 1) (by have := bK.lt; omega)).trans bK)
      have hDl : D < W.heap.size := (Array.getElem?_eq_some_iff.1 hK).1
      have HK4 : Hid (w4.heap[D]? = some (.deferred (some []))) := (HB4.out.block D hDl).trans hK
      have HT4 : Hid (TokCells w4 a2 (wordsOf s)) := (HT0.out.below (show Below W0.heap.size W0 W by rw [hn0]; exact hBl)).below HB4.out
      have HBB : Hid (Below w.heap.size w w4) := bl_trans (bl_trans HB0.out (show Below W0.heap.size W0 W by rw [hn0]; exact hBl)) HB4.out
      have HDw : Hid (w.heap.size ≤ D) := by have := HB0.out.size; have := hD; simp at this; show w.heap.size ≤ D; omega
      have hDw : D < w4.heap.size := Nat.lt_of_lt_of_le hDl HB4.out.size
      obtain ⟨W1, hW1⟩ : ∃ W1, w4.alloc (.cells #[.int .i64 1] 3) = W1 := ⟨_, rfl⟩
      have bT1 : Boxed W1 Bt 9 (.string s) := by rw [← hW1]; exact bT4.alloc _
      have bK1 : Boxed W1 (Bt + 1) 3 (.int .i64 (L : Int)) := by rw [← hW1]; exact bK4.alloc _
      have bR1 : Boxed W1 w4.heap.size 3 (.int .i64 1) := by rw [← hW1]; exact Boxed.new w4 _ _
      have HK1 : Hid (W1.heap[D]? = some (.deferred (some []))) := by
        have h := (bl_one w4 (.cells #[.int .i64 1] 3)).block D hDw
        rw [hW1] at h
        exact h.trans HK4.out
      have HT1 : Hid (TokCells W1 a2 (wordsOf s)) := by rw [← hW1]; exact HT4.out.below (bl_one w4 _)
      have HBB1 : Hid (Below w.heap.size w W1) := by rw [← hW1]; exact bl_trans HBB.out (bl_one w4 _)
      have hn1' : w4.heap.size + 1 = W1.heap.size := by rw [← hW1]; simp
      have hbw : w4.heap.size < W1.heap.size := by omega
      have htl : (toks (nums s)).length ≤ 5001 := HTL.out
      rw [hW1, hn1']
      clear hW1 hn1' bT4 bK4 HK4 HT4 HBB hv hc cK cR cR4 hBl hK hD hsz HB4 HSm
      generalize w4.heap.size = Bs at *
      generalize hn1 : W1.heap.size = n1 at *
      refine wpIn_rangeFunc_ownG rfl (by omega) (gf := 47) (lb := #[.pointer (some ⟨Bt, 0, none⟩)]) rfl trivial (enters_of Try.func47 (by kernel_rfl) rfl)
        (words_stops _ (by omega) Bt n1 s (by omega) _ (bT1.alloc _)) kpT_t (kpT_b (by simp; omega) (by simp; have := bT1.lt; omega)) (Below.refl _ _) (fun _ => rfl)
        (fun pre W => (∃ v, Boxed W n1 24 v ∧ W.ownsRow n1 32 2 v pre.length (tokVals s pre) ∧ (v = .slice none 0 0 ↔ pre = [])) ∧ Boxed W Bt 9 (.string s) ∧ True ∧ Below n1 W1 W)
        (fun c pre W => False)
        (OwnFrom.and (Own.from (holdsRow_own n1 n1 24 32 2 (fun pre => pre.length) (fun pre => tokVals s pre) (fun pre v => v = .slice none 0 0 ↔ pre = [])) _) (OwnFrom.and (Own.from (boxed_own _ _ (fun _ => .string s)) _) (OwnFrom.and (fun _ _ _ _ hs _ _ => hs) (ownFrom_below (by omega) (by simp; omega)))))
        (fun _ _ _ _ _ hs _ _ => hs)
        ⟨⟨_, by rw [← hn1]; exact Boxed.new W1 24 (.slice none 0 0), World.ownsRow_nil _ _ _ _, by simp⟩, bT1.alloc _, trivial, by rw [← hn1]; exact (Below.refl _ W1).alloc (Nat.le_refl _) _⟩
        ?aby ?assign1y ?body1y ?done1y ?stop1y
      case assign1y =>
        intro l x W K hK
        gi_wp2
        exact hK
      case body1y =>
        rintro l pre x W ⟨⟨v, hv, hrow, hnil⟩, hX, -, hBl⟩ hlt
        have hsz : n1 ≤ W.heap.size := by have := hBl.size; omega
        have cK : W.cell? ⟨Bt + 1, 0, none⟩ = some (.int .i64 (L : Int)) := (hBl.cell (p := ⟨Bt + 1, 0, none⟩) (by have := bK1.lt; dsimp only; omega)).trans bK1.cell
        have cR : W.cell? ⟨Bs, 0, none⟩ = some (.int .i64 1) := (hBl.cell (p := ⟨Bs, 0, none⟩) (by dsimp only; omega)).trans bR1.cell
        obtain ⟨av, cv, ev, -, -⟩ := own_cells3 hrow
        rw [show (wl s pre).length = pre.length by simp [wl]] at ev
        subst ev
        have hc := hv.cell
        have hnl := bT1.lt
        by_cases hk : pre.length = L
        · have d1 : (pre.length = L) = True := eq_true hk
          have d2 : ((pre.length : Int) = (L : Int)) = True := eq_true (by omega)
          have d3 : ((pre.length : Int) == (L : Int)) = true := by rw [hk]; simp
          clear hk
          gi_wp2_with (gi_at_builtin; refine wpListIn_append_own _ rfl _ _ 24 rfl n1 32 i0 (.agg #[.int .i64 0, .string ⟨#[]⟩]) 2 24 Try.underlying24 hi hz0 hz1 hz2 rfl (by decide) _ _ _ rfl (hrow.alloc _) ⟨W.heap.size, 0, none⟩ 1 1 [.int .i64 (x.1 : Int), .string (s.extract x.1 x.2)] rfl rfl (cells_two_new _ _ _ _) (by simp [Value.oneCell']) (by unfold maxLen; omega) (by omega) (by simp; omega) ?_; intro v' w1' hown' hgrow _; obtain ⟨g', cap', rfl⟩ := ownsRow_succ hown'; obtain ⟨hv1, hv2, hr2, hk2, hb2⟩ := hv.appended (by decide) hrow hsz (Nat.le_refl _) hown' hgrow; have hX1 := ((hX.alloc _).kept hgrow (hX.not_row (by decide) hrow)).other (B' := n1) (by omega); have hc1 := hv1.cell; have hf1 := hv1.frozen)
          exact ⟨hk2.from _, ⟨hb2, fun _ => hX1 _⟩, ⟨_, hv2, by rw [tokVals_snoc]; simpa using hr2, by simp⟩, hX1 _, trivial, hBl.trans hb2⟩
        · have d1 : (pre.length = L) = False := eq_false hk
          have d2 : ((pre.length : Int) = (L : Int)) = False := eq_false (by omega)
          have d3 : ((pre.length : Int) == (L : Int)) = false := beq_eq_false_iff_ne.2 (by omega)
          gi_wp2_with (gi_at_builtin; refine wpListIn_append_own _ rfl _ _ 24 rfl n1 32 i0 (.agg #[.int .i64 0, .string ⟨#[]⟩]) 2 24 Try.underlying24 hi hz0 hz1 hz2 rfl (by decide) _ _ _ rfl (hrow.alloc _) ⟨W.heap.size, 0, none⟩ 1 1 [.int .i64 (x.1 : Int), .string (s.extract x.1 x.2)] rfl rfl (cells_two_new _ _ _ _) (by simp [Value.oneCell']) (by unfold maxLen; omega) (by omega) (by simp; omega) ?_; intro v' w1' hown' hgrow _; obtain ⟨g', cap', rfl⟩ := ownsRow_succ hown'; obtain ⟨hv1, hv2, hr2, hk2, hb2⟩ := hv.appended (by decide) hrow hsz (Nat.le_refl _) hown' hgrow; have hX1 := ((hX.alloc _).kept hgrow (hX.not_row (by decide) hrow)).other (B' := n1) (by omega); have hc1 := hv1.cell; have hf1 := hv1.frozen)
          exact ⟨hk2.from _, ⟨hb2, fun _ => hX1 _⟩, ⟨_, hv2, by rw [tokVals_snoc]; simpa using hr2, by simp⟩, hX1 _, trivial, hBl.trans hb2⟩
      case done1y =>
        rintro D2 ys W hD rfl ⟨⟨v, hv, hrow, hnil⟩, hX, -, hBl⟩ hK
        have hsz : n1 ≤ W.heap.size := by have := hBl.size; omega
        have cR : W.cell? ⟨Bs, 0, none⟩ = some (.int .i64 1) := (hBl.cell (p := ⟨Bs, 0, none⟩) (by dsimp only; omega)).trans bR1.cell
        obtain ⟨av, cv, ev, hTv, -⟩ := own_cells3 hrow
        have he : (wl s (toks (nums s))).length = L := HLL.out
        rw [he] at ev
        subst ev
        have hc := hv.cell
        have hBW : Below W1.heap.size W1 W := by rw [hn1]; exact hBl
        have hT2 := HT1.out.below hBW
        have hsm := same_c av a2 cv c2 (wordsOf s) (by have := HLL.out; have := HL.out; omega) W hTv hT2
        rw [HLL.out] at hsm
        have HSm := Lib.hid hsm
        have HBW := Lib.hid hBW
        clear hsm he hTv hT2 hnil hrow hX htl hBW
        gi_wp2_with (refine ⟨trivial, ?_⟩; gi_at_call 16; refine (callsIn_wide.2 HSm.out).mono ?_; rintro e w4 ⟨rfl, hm⟩
                     have HB4 : Hid (Below W.heap.size W w4) := by
                       obtain ⟨m, rfl⟩ := hm
                       exact below_drewN' (Below.refl _ _) _
                     have cR4 : w4.cell? ⟨Bs, 0, none⟩ = some (.int .i64 1) := (HB4.out.cell (p := ⟨Bs, 0, none⟩) (by dsimp only; omega)).trans cR
                     clear hm)
        rw [roundsIn_succ]
        gi_wp2_with (refine ⟨trivial, ?_⟩; gi_at_call 13; refine (callsIn_wide.2 (known_c _)).mono ?_; rintro e w5 ⟨rfl, hb5⟩)
        have hDl : D2 < W.heap.size := (Array.getElem?_eq_some_iff.1 hK).1
        have hb6 := bl_trans (bl_one w4 (.cells #[.int .i64 2] 3)) hb5
        have hK5 : w5.heap[D2]? = some (.deferred (some [])) := (hb6.block D2 (Nat.lt_of_lt_of_le hDl HB4.out.size)).trans ((HB4.out.block D2 hDl).trans hK)
        have hD5 : D < W1.heap.size := (Array.getElem?_eq_some_iff.1 HK1.out).1
        have hDw5 : D < W.heap.size := Nat.lt_of_lt_of_le hD5 HBW.out.size
        have hK6 : w5.heap[D]? = some (.deferred (some [])) := (hb6.block D (Nat.lt_of_lt_of_le hDw5 HB4.out.size)).trans ((HB4.out.block D hDw5).trans ((HBW.out.block D hD5).trans HK1.out))
        have hBz := bl_trans (bl_trans (bl_trans HBB1.out HBW.out) HB4.out) hb6
        have hbP := belowK_b (w := W1) (Nat.le_refl _) w5 D2 _ (.deferred none) (by simp at hD; omega) hK5 rfl rfl
        have hK7 := (hbP.block D hD5).trans hK6
        refine ⟨by simp, .inl ⟨_, _, rfl, run_takeDeferred hK5, ⟨by simp, .inl ⟨_, _, rfl, run_takeDeferred hK7, ?_⟩⟩⟩⟩
        exact ⟨_, results_tmp rfl _ _ _, rfl, (hBz.trans (hbP.mono HBB1.out.size)).trans (belowK_b (w := w) (Nat.le_refl _) _ D _ _ HDw.out hK7 rfl rfl)⟩
      case stop1y =>
        rintro D c pre W _ _ h _
        exact h.elim
  case stop =>
    rintro D c pre W hD hpre ⟨rfl, q, ⟨x, rfl⟩, hq, ⟨v, hv, hrow, hnil⟩, hBl⟩ hK
    have hsz : n0 ≤ W.heap.size := by have := hBl.size; omega
    have cK : W.cell? ⟨Bt + 1, 0, none⟩ = some (.int .i64 (k : Int)) := (hBl.cell (p := ⟨Bt + 1, 0, none⟩) (by have := bK.lt; dsimp only; omega)).trans bK.cell
    have cR : W.cell? ⟨Bt + 1 + 1, 0, none⟩ = some (.int .i64 0) := (hBl.cell (p := ⟨Bt + 1 + 1, 0, none⟩) (by have := bR.lt; dsimp only; omega)).trans bR.cell
    obtain ⟨av, cv, ev, hTv, -⟩ := own_cells3 hrow
    have hwl : wl s q = (wordsOf s).take k := by
      obtain ⟨t, ht⟩ := hpre
      rw [← wl_toks, ← ht]
      unfold wl
      rw [List.map_append, List.map_append, List.append_assoc, List.take_append_of_le_length (by rw [List.length_map]; omega), List.take_of_length_le (by rw [List.length_map]; omega)]
    have hkL : k < L := by
      have h1 := hpre.length_le
      have h2 := HLL.out
      rw [← wl_toks] at h2
      unfold wl at h2
      rw [List.length_map] at h2
      rw [List.length_append, List.length_singleton] at h1
      omega
    have hkl : ((wordsOf s).take k).length = k := by rw [List.length_take]; have := HLL.out; omega
    rw [hwl, hkl] at ev
    rw [hwl] at hTv
    subst ev
    have hc := hv.cell
    have e1 : ((0 : Int) ≤ (k : Int)) = True := eq_true (by omega)
    have e2 : ((k : Int) ≤ (c2 : Int)) = True := eq_true (by have := HCP.out; omega)
    have e3 : (k ≤ c2) = True := eq_true (by have := HCP.out; omega)
    have e4 : (L < k) = False := eq_false (by omega)
    have hT2 := (HT0.out.below (show Below W0.heap.size W0 W by rw [hn0]; exact hBl)).take k
    have hsm := same_c av a2 cv c2 ((wordsOf s).take k) (by rw [hkl]; have := HLL.out; have := HL.out; omega) W hTv hT2
    rw [hkl] at hsm
    have HSm := Lib.hid hsm
    have HTL := Lib.hid htl
    clear hsm hkl hwl hTv hT2 hnil hrow htl hq hpre hkL
    gi_wp2_with (refine ⟨trivial, ?_⟩; gi_at_call 16; refine (callsIn_wide.2 HSm.out).mono ?_; rintro e w4 ⟨rfl, hm⟩
                 have HB4 : Hid (Below W.heap.size W w4) := by
                   obtain ⟨m, rfl⟩ := hm
                   exact below_drewN' (Below.refl _ _) _
                 have cR4 : w4.cell? ⟨Bt + 1 + 1, 0, none⟩ = some (.int .i64 0) := (HB4.out.cell (p := ⟨Bt + 1 + 1, 0, none⟩) (by have := bR.lt; dsimp only; omega)).trans cR
                 clear hm)

    rw [roundsIn_succ]
    gi_wp2
    have bT4 : Boxed w4 Bt 9 (.string s) := (HB4.out.block Bt (by have := bT.lt; omega)).trans ((hBl.block Bt (by have := bT.lt; omega)).trans bT)
    have bK4 : Boxed w4 (Bt + 1) 3 (.int .i64 (k : Int)) := (HB4.out.block (Bt + 1) (by have := bK.lt; omega)).trans ((hBl.block (Bt + 1) (by have := bK.lt; omega)).trans bK)
    have hDl : D < W.heap.size := (Array.getElem?_eq_some_iff.1 hK).1
    have HK4 : Hid (w4.heap[D]? = some (.deferred (some []))) := (HB4.out.block D hDl).trans hK
    have HT4 : Hid (TokCells w4 a2 (wordsOf s)) := (HT0.out.below (show Below W0.heap.size W0 W by rw [hn0]; exact hBl)).below HB4.out
    have HBB : Hid (Below w.heap.size w w4) := bl_trans (bl_trans HB0.out (show Below W0.heap.size W0 W by rw [hn0]; exact hBl)) HB4.out
    have HDw : Hid (w.heap.size ≤ D) := by have := HB0.out.size; have := hD; simp at this; show w.heap.size ≤ D; omega
    have hDw : D < w4.heap.size := Nat.lt_of_lt_of_le hDl HB4.out.size
    obtain ⟨W1, hW1⟩ : ∃ W1, w4.alloc (.cells #[.int .i64 1] 3) = W1 := ⟨_, rfl⟩
    have bT1 : Boxed W1 Bt 9 (.string s) := by rw [← hW1]; exact bT4.alloc _
    have bK1 : Boxed W1 (Bt + 1) 3 (.int .i64 (k : Int)) := by rw [← hW1]; exact bK4.alloc _
    have bR1 : Boxed W1 w4.heap.size 3 (.int .i64 1) := by rw [← hW1]; exact Boxed.new w4 _ _
    have HK1 : Hid (W1.heap[D]? = some (.deferred (some []))) := by
      have h := (bl_one w4 (.cells #[.int .i64 1] 3)).block D hDw
      rw [hW1] at h
      exact h.trans HK4.out
    have HT1 : Hid (TokCells W1 a2 (wordsOf s)) := by rw [← hW1]; exact HT4.out.below (bl_one w4 _)
    have HBB1 : Hid (Below w.heap.size w W1) := by rw [← hW1]; exact bl_trans HBB.out (bl_one w4 _)
    have hn1' : w4.heap.size + 1 = W1.heap.size := by rw [← hW1]; simp
    have hbw : w4.heap.size < W1.heap.size := by omega
    have htl : (toks (nums s)).length ≤ 5001 := HTL.out
    rw [hW1, hn1']
    clear hW1 hn1' bT4 bK4 HK4 HT4 HBB hv hc cK cR cR4 hBl hK hD hsz HB4 HSm
    generalize w4.heap.size = Bs at *
    generalize hn1 : W1.heap.size = n1 at *
    refine wpIn_rangeFunc_ownG rfl (by omega) (gf := 47) (lb := #[.pointer (some ⟨Bt, 0, none⟩)]) rfl trivial (enters_of Try.func47 (by kernel_rfl) rfl)
      (words_stops _ (by omega) Bt n1 s (by omega) _ (bT1.alloc _)) kpT_t (kpT_b (by simp; omega) (by simp; have := bT1.lt; omega)) (Below.refl _ _) (fun _ => rfl)
      (fun pre W => (∃ v, Boxed W n1 24 v ∧ W.ownsRow n1 32 2 v pre.length (tokVals s pre) ∧ (v = .slice none 0 0 ↔ pre = [])) ∧ Boxed W Bt 9 (.string s) ∧ True ∧ Below n1 W1 W)
      (fun c pre W => False)
      (OwnFrom.and (Own.from (holdsRow_own n1 n1 24 32 2 (fun pre => pre.length) (fun pre => tokVals s pre) (fun pre v => v = .slice none 0 0 ↔ pre = [])) _) (OwnFrom.and (Own.from (boxed_own _ _ (fun _ => .string s)) _) (OwnFrom.and (fun _ _ _ _ hs _ _ => hs) (ownFrom_below (by omega) (by simp; omega)))))
      (fun _ _ _ _ _ hs _ _ => hs)
      ⟨⟨_, by rw [← hn1]; exact Boxed.new W1 24 (.slice none 0 0), World.ownsRow_nil _ _ _ _, by simp⟩, bT1.alloc _, trivial, by rw [← hn1]; exact (Below.refl _ W1).alloc (Nat.le_refl _) _⟩
      ?abz ?assign1z ?body1z ?done1z ?stop1z
    case assign1z =>
      intro l x W K hK
      gi_wp2
      exact hK
    case body1z =>
      rintro l pre x W ⟨⟨v, hv, hrow, hnil⟩, hX, -, hBl⟩ hlt
      have hsz : n1 ≤ W.heap.size := by have := hBl.size; omega
      have cK : W.cell? ⟨Bt + 1, 0, none⟩ = some (.int .i64 (k : Int)) := (hBl.cell (p := ⟨Bt + 1, 0, none⟩) (by have := bK1.lt; dsimp only; omega)).trans bK1.cell
      have cR : W.cell? ⟨Bs, 0, none⟩ = some (.int .i64 1) := (hBl.cell (p := ⟨Bs, 0, none⟩) (by dsimp only; omega)).trans bR1.cell
      obtain ⟨av, cv, ev, -, -⟩ := own_cells3 hrow
      rw [show (wl s pre).length = pre.length by simp [wl]] at ev
      subst ev
      have hc := hv.cell
      have hnl := bT1.lt
      by_cases hk : pre.length = k
      · have d1 : (pre.length = k) = True := eq_true hk
        have d2 : ((pre.length : Int) = (k : Int)) = True := eq_true (by omega)
        have d3 : ((pre.length : Int) == (k : Int)) = true := by rw [hk]; simp
        clear hk
        gi_wp2_with (gi_at_builtin; refine wpListIn_append_own _ rfl _ _ 24 rfl n1 32 i0 (.agg #[.int .i64 0, .string ⟨#[]⟩]) 2 24 Try.underlying24 hi hz0 hz1 hz2 rfl (by decide) _ _ _ rfl (hrow.alloc _) ⟨W.heap.size, 0, none⟩ 1 1 [.int .i64 (x.1 : Int), .string (s.extract x.1 x.2)] rfl rfl (cells_two_new _ _ _ _) (by simp [Value.oneCell']) (by unfold maxLen; omega) (by omega) (by simp; omega) ?_; intro v' w1' hown' hgrow _; obtain ⟨g', cap', rfl⟩ := ownsRow_succ hown'; obtain ⟨hv1, hv2, hr2, hk2, hb2⟩ := hv.appended (by decide) hrow hsz (Nat.le_refl _) hown' hgrow; have hX1 := ((hX.alloc _).kept hgrow (hX.not_row (by decide) hrow)).other (B' := n1) (by omega); have hc1 := hv1.cell; have hf1 := hv1.frozen)
        exact ⟨hk2.from _, ⟨hb2, fun _ => hX1 _⟩, ⟨_, hv2, by rw [tokVals_snoc]; simpa using hr2, by simp⟩, hX1 _, trivial, hBl.trans hb2⟩
      · have d1 : (pre.length = k) = False := eq_false hk
        have d2 : ((pre.length : Int) = (k : Int)) = False := eq_false (by omega)
        have d3 : ((pre.length : Int) == (k : Int)) = false := beq_eq_false_iff_ne.2 (by omega)
        gi_wp2_with (gi_at_builtin; refine wpListIn_append_own _ rfl _ _ 24 rfl n1 32 i0 (.agg #[.int .i64 0, .string ⟨#[]⟩]) 2 24 Try.underlying24 hi hz0 hz1 hz2 rfl (by decide) _ _ _ rfl (hrow.alloc _) ⟨W.heap.size, 0, none⟩ 1 1 [.int .i64 (x.1 : Int), .string (s.extract x.1 x.2)] rfl rfl (cells_two_new _ _ _ _) (by simp [Value.oneCell']) (by unfold maxLen; omega) (by omega) (by simp; omega) ?_; intro v' w1' hown' hgrow _; obtain ⟨g', cap', rfl⟩ := ownsRow_succ hown'; obtain ⟨hv1, hv2, hr2, hk2, hb2⟩ := hv.appended (by decide) hrow hsz (Nat.le_refl _) hown' hgrow; have hX1 := ((hX.alloc _).kept hgrow (hX.not_row (by decide) hrow)).other (B' := n1) (by omega); have hc1 := hv1.cell; have hf1 := hv1.frozen)
        exact ⟨hk2.from _, ⟨hb2, fun _ => hX1 _⟩, ⟨_, hv2, by rw [tokVals_snoc]; simpa using hr2, by simp⟩, hX1 _, trivial, hBl.trans hb2⟩
    case done1z =>
      rintro D2 ys W hD rfl ⟨⟨v, hv, hrow, hnil⟩, hX, -, hBl⟩ hK
      have hsz : n1 ≤ W.heap.size := by have := hBl.size; omega
      have cR : W.cell? ⟨Bs, 0, none⟩ = some (.int .i64 1) := (hBl.cell (p := ⟨Bs, 0, none⟩) (by dsimp only; omega)).trans bR1.cell
      obtain ⟨av, cv, ev, hTv, -⟩ := own_cells3 hrow
      have he : (wl s (toks (nums s))).length = L := HLL.out
      rw [he] at ev
      subst ev
      have hc := hv.cell
      have hBW : Below W1.heap.size W1 W := by rw [hn1]; exact hBl
      have hT2 := HT1.out.below hBW
      have hsm := same_c av a2 cv c2 (wordsOf s) (by have := HLL.out; have := HL.out; omega) W hTv hT2
      rw [HLL.out] at hsm
      have HSm := Lib.hid hsm
      have HBW := Lib.hid hBW
      clear hsm he hTv hT2 hnil hrow hX htl hBW
      gi_wp2_with (refine ⟨trivial, ?_⟩; gi_at_call 16; refine (callsIn_wide.2 HSm.out).mono ?_; rintro e w4 ⟨rfl, hm⟩
                   have HB4 : Hid (Below W.heap.size W w4) := by
                     obtain ⟨m, rfl⟩ := hm
                     exact below_drewN' (Below.refl _ _) _
                   have cR4 : w4.cell? ⟨Bs, 0, none⟩ = some (.int .i64 1) := (HB4.out.cell (p := ⟨Bs, 0, none⟩) (by dsimp only; omega)).trans cR
                   clear hm)
      rw [roundsIn_succ]
      gi_wp2_with (refine ⟨trivial, ?_⟩; gi_at_call 13; refine (callsIn_wide.2 (known_c _)).mono ?_; rintro e w5 ⟨rfl, hb5⟩)
      have hDl : D2 < W.heap.size := (Array.getElem?_eq_some_iff.1 hK).1
      have hb6 := bl_trans (bl_one w4 (.cells #[.int .i64 2] 3)) hb5
      have hK5 : w5.heap[D2]? = some (.deferred (some [])) := (hb6.block D2 (Nat.lt_of_lt_of_le hDl HB4.out.size)).trans ((HB4.out.block D2 hDl).trans hK)
      have hD5 : D < W1.heap.size := (Array.getElem?_eq_some_iff.1 HK1.out).1
      have hDw5 : D < W.heap.size := Nat.lt_of_lt_of_le hD5 HBW.out.size
      have hK6 : w5.heap[D]? = some (.deferred (some [])) := (hb6.block D (Nat.lt_of_lt_of_le hDw5 HB4.out.size)).trans ((HB4.out.block D hDw5).trans ((HBW.out.block D hD5).trans HK1.out))
      have hBz := bl_trans (bl_trans (bl_trans HBB1.out HBW.out) HB4.out) hb6
      have hbP := belowK_b (w := W1) (Nat.le_refl _) w5 D2 _ (.deferred none) (by simp at hD; omega) hK5 rfl rfl
      have hK7 := (hbP.block D hD5).trans hK6
      refine ⟨by simp, .inl ⟨_, _, rfl, run_takeDeferred hK5, ⟨by simp, .inl ⟨_, _, rfl, run_takeDeferred hK7, ?_⟩⟩⟩⟩
      exact ⟨_, results_tmp rfl _ _ _, rfl, (hBz.trans (hbP.mono HBB1.out.size)).trans (belowK_b (w := w) (Nat.le_refl _) _ D _ _ HDw.out hK7 rfl rfl)⟩
    case stop1z =>
      rintro D c pre W _ _ h _
      exact h.elim
theorem twords_l (ad : Option Addr) (cap : Nat) (s : ByteArray) (hcap : s.size ≤ cap) (z : Int) (w : World) (hB : BytesIn w ad s) :
    Calls Try.prog 3 #[.slice ad s.size cap, .int .i64 z] w (Gives (.bool true) w) := by
  by_cases h : s.size ≤ 5000
  · exact twords_c ad cap s hcap h z w hB
  · exact twords_big ad s.size cap (by omega) z w
end Go.Proofs.Ytpjaefcmaiimlaa
