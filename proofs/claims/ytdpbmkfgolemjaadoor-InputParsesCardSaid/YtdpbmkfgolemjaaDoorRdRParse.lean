/-
  The document's reading of an input.
-/
import Derived.Test.YtdpbmkfgolemjaaDoorRdBacks
import Derived.Test.YtdpbmkfgolemjaaDoorOpRefP
set_option linter.unusedVariables false
set_option linter.unusedSimpArgs false
set_option linter.deprecated false
namespace Go.Proofs.YtdpbmkfgolemjaaDoor
open Go.RowKit Go.Maps

/-- what the document's reading comes to, against the program's -/
structure Out5 (R : List Int × Int × Int) (Q : Q5) (at' e : Int) : Prop where
  at1 : R.2.1 = at'
  er : R.2.2 = e
  ok : e = 0 → R.1 = numsI5 Q.p Q.l Q.i
  no : e ≠ 0 → Q = ⟨[], [], []⟩
theorem Out5.bad {R : List Int × Int × Int} {Q : Q5} {at' e a er : Int} (h : Out5 R Q at' e) (hR : R = ([], a, er)) (he : er ≠ 0) : at' = a ∧ e = er ∧ Q = ⟨[], [], []⟩ := by
  subst hR
  obtain ⟨rfl, rfl, -, h4⟩ := h
  exact ⟨rfl, rfl, h4 he⟩
theorem Out5.good {R : List Int × Int × Int} {Q : Q5} {at' e : Int} {ns : List Int} (h : Out5 R Q at' e) (hR : R = (ns, 0, 0)) : at' = 0 ∧ e = 0 ∧ ns = numsI5 Q.p Q.l Q.i := by
  subst hR
  obtain ⟨rfl, rfl, h3, -⟩ := h
  exact ⟨rfl, rfl, h3 rfl⟩
theorem out_prog5 (s : ByteArray) : Out5 (doc5 s.size (tz6 (wordsOf s))) (prog5 s).1 (prog5 s).2.1 (prog5 s).2.2 := by
  rw [tz_words6]
  obtain ⟨h1, h2, h3⟩ := prog_go5 s
  refine ⟨by rw [h1], by rw [h1], h2, fun h => (h3 h).1⟩
def ResP5 (Q : Q5) (at' e : Int) (w : World) (x : Ending) (W : World) : Prop :=
  ∃ vp vl vi, x = .returned (.tuple #[.agg #[vp, vl, vi], .int .i64 at', .int .i64 e]) ∧ W.ownsRow w.heap.size 43 2 vp Q.p.length (pv5 Q.p) ∧ W.ownsRow w.heap.size 62 2 vl Q.l.length (pv5 Q.l) ∧ W.ownsRow w.heap.size 62 2 vi Q.i.length (pv5 Q.i) ∧ Below w.heap.size w W
theorem res_bad5 {R : List Int × Int × Int} {Q : Q5} {at' e a er : Int} (h : Out5 R Q at' e) (hR : R = ([], a, er)) (he : er ≠ 0) {w W : World} (hb : Below w.heap.size w W) :
    ResP5 Q at' e w (.returned (.tuple #[.agg #[.slice none 0 0, .slice none 0 0, .slice none 0 0], .int .i64 a, .int .i64 er])) W := by
  obtain ⟨rfl, rfl, rfl⟩ := h.bad hR he
  exact ⟨_, _, _, rfl, World.ownsRow_nil _ _ _ _, World.ownsRow_nil _ _ _ _, World.ownsRow_nil _ _ _ _, hb⟩
/-- the first loop -/
structure RP5 (w : World) (gr B g o : Nat) (ts : List (Nat × ByteArray)) (v : Value) (ns : List Int) (W : World) : Prop where
  hb : Below w.heap.size w W
  res : Var W gr [.slice none 0 0, .slice none 0 0, .slice none 0 0]
  tok : TokCells W (some ⟨g, o, none⟩) ts
  own : W.ownsRow B 3 1 v ns.length (ns.map (Value.int .i64))
  sz : B ≤ W.heap.size
theorem RP5.turn {w : World} {gr B g o : Nat} {ts : List (Nat × ByteArray)} {v : Value} {ns : List Int} {W W' : World} (h : RP5 w gr B g o ts v ns W) (hb : Below W.heap.size W W') : RP5 w gr B g o ts v ns W' :=
  ⟨bl_trans h.hb hb, h.res.below hb, tok_below6 h.tok hb, owns_any5 h.own hb, Nat.le_trans h.sz hb.size⟩
theorem tok_belowB5 {W W' : World} {g o B : Nat} {L : List (Nat × ByteArray)} (h : TokCells W (some ⟨g, o, none⟩) L) (hb : Below B W W') (hg : g < B) : TokCells W' (some ⟨g, o, none⟩) L := by
  intro i hi
  obtain ⟨g', o', e, h1, h2⟩ := h i hi
  cases e
  exact ⟨g, o, rfl, (hb.cell (p := ⟨g, _, none⟩) hg).trans h1, (hb.cell (p := ⟨g, _, none⟩) hg).trans h2⟩
theorem RP5.grown {w : World} {gr B g o : Nat} {ts : List (Nat × ByteArray)} {v v' : Value} {ns ns' : List Int} {W W' : World} (h : RP5 w gr B g o ts v ns W) (hg : W.grownBy W' v.ownBlock) (ho : W'.ownsRow B 3 1 v' ns'.length (ns'.map (Value.int .i64))) (h1 : gr < B) (h2 : g < B) (h3 : w.heap.size ≤ B) : RP5 w gr B g o ts v' ns' W' := by
  have hB := grown_below5 hg h.sz (fun k e => (h.own.lt k e).1)
  exact ⟨h.hb.grown hg (Nat.le_trans h3 h.sz) (fun k e => Nat.le_trans h3 (h.own.lt k e).1), h.res.belowB5 hB h1, tok_belowB5 h.tok hB h2, ho, Nat.le_trans h.sz hg.size⟩
theorem go_end_drop5 {ts : List (Nat × ByteArray)} {k : Nat} (h : ts.length ≤ k) : (tz6 ts).drop k = [] := by
  rw [List.drop_eq_nil_iff]
  unfold tz6
  rw [List.length_map]
  exact h
def Apart5 (u v : Value) : Prop := ∀ g, u.ownBlock = some g → v.ownBlock = some g → False
/-- the second loop -/
structure PO5 (w : World) (gr gn gp : Nat) (ns : List Int) (vp vl vi : Value) (P L I : List (Int × Int)) (W : World) : Prop where
  hb : Below w.heap.size w W
  res : Var W gr [.slice none 0 0, .slice none 0 0, .slice none 0 0]
  var : Var W gp [vp, vl, vi]
  int : Int5 W gn ns
  op : W.ownsRow (gp + 1) 43 2 vp P.length (pv5 P)
  ol : W.ownsRow (gp + 1) 62 2 vl L.length (pv5 L)
  oi : W.ownsRow (gp + 1) 62 2 vi I.length (pv5 I)
  a1 : Apart5 vp vl
  a2 : Apart5 vp vi
  a3 : Apart5 vl vi
theorem PO5.drew {w : World} {gr gn gp : Nat} {ns : List Int} {vp vl vi : Value} {P L I : List (Int × Int)} {W : World} (h : PO5 w gr gn gp ns vp vl vi P L I W) : PO5 w gr gn gp ns vp vl vi P L I W.drew :=
  ⟨bl_trans h.hb (bel_drew _), h.res.below (bel_drew _), h.var.below (bel_drew _), h.int, owns_any5 h.op (bel_drew _), owns_any5 h.ol (bel_drew _), owns_any5 h.oi (bel_drew _), h.a1, h.a2, h.a3⟩
theorem Apart5.symm {u v : Value} (h : Apart5 u v) : Apart5 v u := fun g e k => h g k e
theorem apart_new5 {u v v2 : Value} {S : Nat} (h : Apart5 v u) (hloc : v2.ownBlock = v.ownBlock ∨ v2.ownBlock = some S) (hlt : ∀ g, u.ownBlock = some g → g < S) : Apart5 v2 u := by
  intro g e k
  rcases hloc with h1 | h1
  · exact h g (by rw [← h1]; exact e) k
  · rw [h1] at e
    have := hlt g k
    have := Option.some.inj e
    omega
theorem po_next5 {w : World} {gr gn gp : Nat} {ns : List Int} {vp vl vi vp' vl' vi' : Value} {P L I P' L' I' P2 L2 I2 : List (Int × Int)} {wr W : World} (h : PO5 w gr gn gp ns vp vl vi P L I wr) (hH : Below gp wr W) (hx : Var W gp [vp', vl', vi'])
    (o1 : W.ownsRow (gp + 1) 43 2 vp' P'.length (pv5 P')) (o2 : W.ownsRow (gp + 1) 62 2 vl' L'.length (pv5 L')) (o3 : W.ownsRow (gp + 1) 62 2 vi' I'.length (pv5 I')) (a1 : Apart5 vp' vl') (a2 : Apart5 vp' vi') (a3 : Apart5 vl' vi')
    (hg : gr < gn ∧ gn < gp ∧ w.heap.size ≤ gr ∧ gr < gp ∧ w.heap.size ≤ gp) (ht : P2 = P' ∧ L2 = L' ∧ I2 = I') : PO5 w gr gn gp ns vp' vl' vi' P2 L2 I2 W := by
  obtain ⟨rfl, rfl, rfl⟩ := ht
  exact ⟨h.hb.trans (hH.mono hg.2.2.2.2), h.res.belowB5 hH hg.2.2.2.1, hx, h.int.below hH hg.2.1, o1, o2, o3, a1, a2, a3⟩
theorem take_snoc5 {l : List (Int × Int)} {k : Nat} (h : k < l.length) : l.take (k + 1) = l.take k ++ [pget5 l k] := by
  rw [List.take_add_one, List.getElem?_eq_getElem h, ← pget_at5 h]
  rfl
structure Tail5 (P : Prop) : Prop where
  out : P
structure R35 (G : Prop) where
  A : Prop
  B : Prop
  C : Prop
  thm : Tail5 A → Tail5 B → Tail5 C → G
set_option maxHeartbeats 16000000 in
set_option maxRecDepth 100000 in
noncomputable def rpA5 : R35 (∀ (s : ByteArray) (hs : s.size ≤ 10000) (ad : Option Addr) (cap : Nat) (hcap : s.size ≤ cap) (w : World) (hB : BytesIn w ad s) (Q : Q5) (at' e : Int) (hO : Out5 (doc5 s.size (tz6 (wordsOf s))) Q at' e), Calls Tryd.prog 19 #[.slice ad s.size cap] w (ResP5 Q at' e w)) := ⟨_, _, _, fun hA5 hB5 hC5 => by
  intro s hs ad cap hcap w hB Q at' e hO
  have HB := Lib.hid hB
  have HCA := Lib.hid (fun W (h : Below w.heap.size w W) => refAll_w6 ad cap s (by omega) hcap W (hB.below h))
  have hlen : (wordsOf s).length ≤ 20000 := by
    have := words_len s
    omega
  have HOK := Lib.hid (words_fit6 hs)
  generalize wordsOf s = ts at *
  obtain ⟨en, hen⟩ : ∃ en, s.size = en := ⟨_, rfl⟩
  rw [hen] at hO ⊢ HCA
  obtain ⟨R, hR⟩ : ∃ R, doc5 (en : Int) (tz6 ts) = R := ⟨_, rfl⟩
  rw [hR] at hO
  have HO := Lib.hid hO
  clear hB hcap HB hs hen hO
  have CN := Lib.hid (fun t (h : t.size ≤ 10000) W => refNumber_c t h 9223372036854775807 ⟨by omega, by omega⟩ W)
  go_enter Tryd.func19, Tryd.ntmps19
  go_upto_region 1 with (fail)
  obtain ⟨gr, hgr⟩ : ∃ gr, w.heap.size = gr := ⟨_, rfl⟩
  refine wp_abs (fun V => Below w.heap.size w V ∧ Var V gr [.slice none 0 0, .slice none 0 0, .slice none 0 0]) ?_ ?_
  · exact ⟨by repeat (first | (with_reducible exact Below.refl _ _) | (with_reducible refine bl_alloc ?_ _) | (with_reducible refine Below.drew ?_) | (with_reducible refine below_drewN' ?_ _) | ((with_reducible refine bl_set ?_ ?_ _); (rotate_left; (dsimp only; omega)))), var3o_new _ _ _ _ _ _ hgr.symm⟩
  rintro W0 hS0
  have HGR : Hid (gr = w.heap.size) := hgr.symm
  have HS0 := Lib.hid hS0
  rw [hgr]
  clear hS0 hgr
  go_wp2_with fail
  (with_reducible refine (HCA.out _ HS0.out.1).mono ?_); rintro e1 w1 ⟨ad1, cp1, rfl, hT1, hg1, hb1⟩
  have HT := Lib.hid hT1
  have HG1 : Hid (∀ g o, ad1 = some ⟨g, o, none⟩ → gr < g) := fun g o e => Nat.lt_of_lt_of_le HS0.out.2.lt (hg1 g o e)
  have HS1 : Hid (Below w.heap.size w w1 ∧ Var w1 gr [.slice none 0 0, .slice none 0 0, .slice none 0 0]) := ⟨bl_trans HS0.out.1 hb1, HS0.out.2.below hb1⟩
  clear hT1 hb1 hg1 HCA HS0 W0
  obtain ⟨d0, d1, d2⟩ := HS1.out.2.three6
  obtain ⟨f0, f1, f2⟩ := HS1.out.2.free36
  cases ts with
  | nil =>
    have HX : Hid (R = ([], (en : Int), 11)) := hR.symm
    clear hR
    go_wp2_with fail
    obtain ⟨e0, e1, e2⟩ := (HS1.out.2.set3_6 (.slice none 0 0) (.slice none 0 0) (.slice none 0 0)).three6
    refine bodyPost_ret (v := .tuple #[.agg #[.slice none 0 0, .slice none 0 0, .slice none 0 0], .int .i64 (en : Int), .int .i64 11]) (by simp [results, Tryd.results19, go_sem, e0, e1, e2]; done) rfl (res_bad5 HO.out HX.out (by decide) ?_)
    exact bl_set (bl_set (bl_set HS1.out.1 (by dsimp only; have := HGR.out; omega) _) (by dsimp only; have := HGR.out; omega) _) (by dsimp only; have := HGR.out; omega) _
  | cons x0 tr =>
  obtain ⟨a0, s0⟩ := x0
  obtain ⟨ts, hts⟩ : ∃ ts, (a0, s0) :: tr = ts := ⟨_, rfl⟩
  rw [hts] at HT hR hlen HOK ⊢
  have hl1 : 1 ≤ ts.length := by rw [← hts]; simp
  have HT0 : Hid (∀ h, ts[0]'h = (a0, s0)) := by
    intro h
    subst hts
    rfl
  have hR2 : (if nums s0 = wPoly5 then go5 en [] ((tz6 ts).drop 1) else ([], (a0 : Int), 11)) = R := by rw [← hR, ← hts]; rfl
  have HR := Lib.hid hR2
  obtain ⟨g, o, rfl, -⟩ := HT.out 0 (by omega)
  have hgg := HG1.out g o rfl
  have hgl : g < w1.heap.size := cell_lt (tok_at6 HT.out (by omega) (HT0.out (by omega))).1
  obtain ⟨c0, c1⟩ := tok_at6 HT.out (by omega) (HT0.out (by omega))
  simp only [Nat.zero_mul, Nat.add_zero] at c0 c1
  have HGG : Hid (gr < g) := hgg
  clear hR hR2 hts tr HG1 hgg
  have hl0 : ((ts.length : Int) == 0) = false := beq_eq_false_iff_ne.2 (by omega)
  have hl2 : ((ts.length : Int) = 0) = False := eq_false (by omega)
  have hl3 : ((0 : Int) < (ts.length : Int)) = True := eq_true (by omega)
  have hl4 : (0 < ts.length) = True := eq_true (by omega)
  by_cases hp : nums s0 ≠ wPoly5
  · have b1 := eqs_no (t := s0) (L := [112, 111, 108, 121]) (l := wPoly5) rfl hp
    have b3 : (s0.toList != [112, 111, 108, 121]) = true := by unfold bne; rw [b1]; rfl
    have HX : Hid (R = ([], (a0 : Int), 11)) := by
      have := HR.out
      rw [if_neg hp] at this
      exact this.symm
    have HS0 : Hid (Below w.heap.size w w1 ∧ Var w1 gr [.slice none 0 0, .slice none 0 0, .slice none 0 0] ∧ w1.cell? ⟨g, o, none⟩ = some (.int .i64 (a0 : Int))) := ⟨HS1.out.1, HS1.out.2, c0⟩
    clear HR hp HS1 d0 d1 d2 f0 f1 f2 c0
    go_upto_region 7 with (fail)
    refine wp_region_held_drew (S := fun V => Below w.heap.size w V ∧ Var V gr [.slice none 0 0, .slice none 0 0, .slice none 0 0] ∧ V.cell? ⟨g, o, none⟩ = some (.int .i64 (a0 : Int))) (by kernel_rfl) ?_ (fun hHeld => ?_)
    · exact ⟨bl_trans HS0.out.1 (bel_drew _), HS0.out.2.1.below (bel_drew _), HS0.out.2.2⟩
    revert hHeld
    generalize World.drew _ = W1
    intro hHeld 
    refine wpAnyH_take (i := 0) (v := ?_) rfl (by kernel_rfl) (by kernel_rfl) (by kernel_rfl) (fun _ _ _ h => h) (Or.inl ⟨by rfl, ?_⟩) (by assumption) ?_
    rotate_left
    · intro Wq hSw
      clear hSw
      go_simp
      all_goals (with_reducible rfl)
    try simp only [Act.put, List.getElem_toArray, List.getElem_cons_zero, List.setIfInBounds_toArray, List.set_cons_zero, List.set_cons_succ]
    refine wpAnyH_take (i := 1) (v := ?_) rfl (by kernel_rfl) (by kernel_rfl) (by kernel_rfl) (fun _ _ _ h => h) (Or.inl ⟨by rfl, ?_⟩) (by assumption) ?_
    rotate_left
    · intro Wq hSw
      clear hSw
      go_simp
      all_goals (with_reducible rfl)
    try simp only [Act.put, List.getElem_toArray, List.getElem_cons_succ, List.getElem_cons_zero, List.setIfInBounds_toArray, List.set_cons_zero, List.set_cons_succ]
    refine wpAnyH_take (i := 2) (v := ?_) rfl (by kernel_rfl) (by kernel_rfl) (by kernel_rfl) (fun _ _ _ h => h) (Or.inl ⟨by rfl, ?_⟩) (by assumption) ?_
    rotate_left
    · intro Wq hSw
      clear hSw
      go_simp
      all_goals (with_reducible rfl)
    try simp only [Act.put, List.getElem_toArray, List.getElem_cons_succ, List.getElem_cons_zero, List.setIfInBounds_toArray, List.set_cons_zero, List.set_cons_succ]
    refine wpAnyH_take (i := 3) (v := ?_) rfl (by kernel_rfl) (by kernel_rfl) (by kernel_rfl) (fun _ _ _ h => h) (Or.inl ⟨by rfl, ?_⟩) (by assumption) ?_
    rotate_left
    · intro Wq hSw
      clear hSw
      go_simp
      all_goals (with_reducible rfl)
    try simp only [Act.put, List.getElem_toArray, List.getElem_cons_succ, List.getElem_cons_zero, List.setIfInBounds_toArray, List.set_cons_zero, List.set_cons_succ]
    refine wpAnyH_take (i := 4) (v := ?_) rfl (by kernel_rfl) (by kernel_rfl) (by kernel_rfl) (fun _ _ _ h => h) (Or.inl ⟨by rfl, ?_⟩) (by assumption) ?_
    rotate_left
    · intro Wq hSw
      have c0 := hSw.2.2
      clear hSw
      go_simp
      all_goals (with_reducible rfl)
    try simp only [Act.put, List.getElem_toArray, List.getElem_cons_succ, List.getElem_cons_zero, List.setIfInBounds_toArray, List.set_cons_zero, List.set_cons_succ]
    refine r1 (i := 5) rfl (fun K hK => ?_)
    obtain ⟨d0, d1, d2⟩ := hHeld.2.1.three6
    obtain ⟨f0, f1, f2⟩ := hHeld.2.1.free36
    go_simp
    refine hK.out _ _ ⟨bl_set (bl_set (bl_set hHeld.1 (by dsimp only; have := HGR.out; omega) _) (by dsimp only; have := HGR.out; omega) _) (by dsimp only; have := HGR.out; omega) _, hHeld.2.1.set3_6 _ _ _, (World.cell?_setCell_far _ _ _ _ (by dsimp only; have := HGG.out; omega)).trans ((World.cell?_setCell_far _ _ _ _ (by dsimp only; have := HGG.out; omega)).trans ((World.cell?_setCell_far _ _ _ _ (by dsimp only; have := HGG.out; omega)).trans hHeld.2.2))⟩ (fun hHeld2 => ?_)
    clear hK K hHeld d0 d1 d2 f0 f1 f2
    have hHeld := hHeld2
    clear hHeld2
    try simp only [Act.put, List.getElem_toArray, List.getElem_cons_succ, List.getElem_cons_zero, List.setIfInBounds_toArray, List.set_cons_zero, List.set_cons_succ]
    refine wpAnyH_take (i := 6) (v := ?_) rfl (by kernel_rfl) (by kernel_rfl) (by kernel_rfl) (fun _ _ _ h => h) (Or.inl ⟨by rfl, ?_⟩) (by assumption) ?_
    rotate_left
    · intro Wq hSw
      clear hSw
      go_simp
      all_goals (with_reducible rfl)
    try simp only [Act.put, List.getElem_toArray, List.getElem_cons_succ, List.getElem_cons_zero, List.setIfInBounds_toArray, List.set_cons_zero, List.set_cons_succ]
    refine wpAnyH_take (i := 7) (v := ?_) rfl (by kernel_rfl) (by kernel_rfl) (by kernel_rfl) (fun _ _ _ h => h) (Or.inl ⟨by rfl, ?_⟩) (by assumption) ?_
    rotate_left
    · intro Wq hSw
      clear hSw
      go_simp
      all_goals (with_reducible rfl)
    try simp only [Act.put, List.getElem_toArray, List.getElem_cons_succ, List.getElem_cons_zero, List.setIfInBounds_toArray, List.set_cons_zero, List.set_cons_succ]
    refine wpAnyH_done (by kernel_rfl) ?_ _
    go_wp2_with fail
    obtain ⟨e0, e1, e2⟩ := hHeld.2.1.three6
    refine bodyPost_ret (v := .tuple #[.agg #[.slice none 0 0, .slice none 0 0, .slice none 0 0], .int .i64 (a0 : Int), .int .i64 11]) (by simp [results, Tryd.results19, go_sem, e0, e1, e2]; done) rfl (res_bad5 HO.out HX.out (by decide) hHeld.1)
  have hp := Decidable.not_not.1 hp
  have b1 := eqs_yes (t := s0) (L := [112, 111, 108, 121]) (l := wPoly5) rfl hp
  have b3 : (s0.toList != [112, 111, 108, 121]) = false := by unfold bne; rw [b1]; rfl
  have HR1 : Hid (go5 en [] ((tz6 ts).drop 1) = R) := by
    have := HR.out
    rwa [if_pos hp] at this
  clear HR hp
  go_wp2_with fail
  obtain ⟨B, hB⟩ : ∃ B, w1.heap.size = B := ⟨_, rfl⟩
  have HBB : Hid (gr < B ∧ g < B ∧ w.heap.size ≤ B) := by
    have := HS1.out.1.size
    have := HGR.out
    have := HGG.out
    unfold Hid; omega
  have HS3 : Hid (RP5 w gr B g o ts (.slice none 0 0) [] w1) := ⟨HS1.out.1, HS1.out.2, HT.out, World.ownsRow_nil _ _ _ _, by omega⟩
  clear b1 b3 c0 c1 d0 d1 d2 f0 f1 f2 hgl hB HS1 HT
  go_loopw [7, 8, 9] (fun nv av iv W => ∃ (ns : List Int) (n : Nat) (m : Int), av = .int .i64 m ∧ iv = .int .i64 n ∧ Hid (ns.length = n ∧ all5 ns = m) ∧ (n : Int) ≤ m ∧ Lim5 [] ns ∧ Hid (go5 en ns ((tz6 ts).drop (n + 1)) = R) ∧ RP5 w gr B g o ts nv ns W) (fun _ _ iv _ => 3000 - (intOf iv).toNat)
  case atStart => exact ⟨[], 0, 3, rfl, rfl, ⟨rfl, rfl⟩, by decide, trivial, HR1.out, HS3.out⟩
  case round =>
    obtain ⟨ns, n, m, rfl, rfl, HN, hnm, hlim, HX, hS⟩ := hrel
    have HS := Lib.hid hS
    have HL := Lib.hid hlim
    obtain ⟨m3, m4, hm5⟩ := all_bound5 hlim
    rw [HN.out.2] at m3 m4 hm5
    rw [HN.out.1] at hm5
    clear hS hlim HR1 HS3
    obtain ⟨n', hn'⟩ : ∃ n', n + 1 = n' := ⟨_, rfl⟩
    have hw1 : wrap64 ((n : Int) + 1) = (n' : Int) := by unfold wrap64; omega
    have hw2 : ((n : Int) + 1) = (n' : Int) := by omega
    have hw3 : wrap64 (n' : Int) = (n' : Int) := by unfold wrap64; omega
    by_cases hlt : (n : Int) < m
    · have hne : (ns.length : Int) ≠ all5 ns := by rw [HN.out.1, HN.out.2]; omega
      have HNE := Lib.hid hne
      have b9 : ((n : Int) < m) = True := eq_true hlt
      by_cases hend : ts.length ≤ n'
      · have HXX : Hid (R = ([], (en : Int), 11)) := by
          have := HX.out
          rw [go_end_drop5 (by omega), go_nil5 hne] at this
          exact this.symm
        obtain ⟨d0, d1, d2⟩ := HS.out.res.three6
        obtain ⟨f0, f1, f2⟩ := HS.out.res.free36
        have h1 : ((ts.length : Int) ≤ (n' : Int)) = True := eq_true (by omega)
        have h2 : (ts.length ≤ n') = True := eq_true (by omega)
        clear hne HX hm5 m3 m4 hnm hlt hend hn'
        go_wp2_with fail
        obtain ⟨e0, e1, e2⟩ := (HS.out.res.set3_6 (.slice none 0 0) (.slice none 0 0) (.slice none 0 0)).three6
        refine bodyPost_ret (v := .tuple #[.agg #[.slice none 0 0, .slice none 0 0, .slice none 0 0], .int .i64 (en : Int), .int .i64 11]) (by simp [results, Tryd.results19, go_sem, e0, e1, e2]; done) rfl (res_bad5 HO.out HXX.out (by decide) ?_)
        exact bl_set (bl_set (bl_set HS.out.hb (by dsimp only; have := HGR.out; omega) _) (by dsimp only; have := HGR.out; omega) _) (by dsimp only; have := HGR.out; omega) _
      · have hlt2 : n' < ts.length := by omega
        obtain ⟨x, hx⟩ : ∃ x, ts[n'] = x := ⟨_, rfl⟩
        obtain ⟨a, t⟩ := x
        have ht : t.size ≤ 10000 := (HOK.out (a, t) (hx ▸ List.getElem_mem hlt2)).2
        have HCN := Lib.hid (CN.out t ht)
        have HDR : Hid ((tz6 ts).drop n' = ((a : Int), nums t) :: (tz6 ts).drop (n' + 1)) := by
          have := tz_drop6 hlt2
          rw [hx] at this
          exact this
        obtain ⟨⟨lo, hi⟩, hl⟩ : ∃ q, lim5 ns = q := ⟨_, rfl⟩
        have HLI := Lib.hid hl
        have hx0 : 0 ≤ ns.getD 0 0 ∧ ns.getD 0 0 ≤ 200 := by
          by_cases h0 : 0 < ns.length
          · exact (lim_heads5 HL.out).1 h0
          · have : ns = [] := List.length_eq_zero_iff.1 (by omega)
            subst this
            decide
        have HCL := Lib.hid (fun W h => limits_l5 ns n HN.out.1 _ rfl hx0.1 hx0.2 (by omega) lo hi hl u7 W h)
        have HC3 : Hid (3 ≤ n → ∃ g cap, u7 = .slice (some ⟨g, 0, none⟩) n cap ∧ wr.cell? ⟨g, 0, none⟩ = some (.int .i64 (ns.getD 0 0))) := by
          intro h3
          obtain ⟨gn, cap, e, -, -, -, hi5⟩ := own_ints5 HS.out.own (by have := HN.out.1; omega)
          refine ⟨gn, cap, by rw [e, HN.out.1], hi5 0 _ ?_⟩
          rw [List.getD_eq_getElem?_getD, List.getElem?_eq_getElem (by have := HN.out.1; omega)]
          rfl
        have h1 : ((ts.length : Int) ≤ (n' : Int)) = False := eq_false (by omega)
        have h2 : (ts.length ≤ n') = False := eq_false (by omega)
        have HXI := Lib.hid hx
        obtain ⟨c0, c1⟩ := tok_at6 HS.out.tok hlt2 hx
        have h3 : ((n' : Int) < (ts.length : Int)) = True := eq_true (by omega)
        have h4 : (n' < ts.length) = True := eq_true hlt2
        have h5 : ((0 : Int) ≤ (n' : Int)) = True := eq_true (by omega)
        have HM5 := Lib.hid hm5
        have HBD : Hid (n < 2003 ∧ n + 1 = n' ∧ 3 ≤ m ∧ m ≤ 2003 ∧ (n : Int) < m ∧ n' < ts.length) := by unfold Hid; omega
        clear hne hl hx0 hx ht hm5 m3 m4 hnm hlt hend hn' hl0 hl1 hl2 hl3 hl4
        go_wp2_with fail
        (with_reducible refine (HCL.out _ HC3.out).mono ?_); rintro e1 w2 ⟨rfl, hb2⟩
        have HS2 := Lib.hid (HS.out.turn hb2)
        clear hb2 HS HC3 HCL c0 c1
        obtain ⟨c0, c1⟩ := tok_at6 HS2.out.tok HBD.out.2.2.2.2.2 HXI.out
        obtain ⟨gw, hgw⟩ : ∃ gw, w2.heap.size = gw := ⟨_, rfl⟩
        have HGW : Hid (gr < gw) := by rw [← hgw]; exact HS2.out.res.lt
        go_upto_region 17 with (fail)
        refine wp_abs (fun V => RP5 w gr B g o ts u7 ns V ∧ Var V gw [.int .i64 (a : Int), .string t]) ?_ ?_
        · exact ⟨HS2.out.turn (by repeat (first | (with_reducible exact Below.refl _ _) | (with_reducible refine bl_alloc ?_ _) | (with_reducible refine Below.drew ?_) | (with_reducible refine below_drewN' ?_ _) | ((with_reducible refine bl_set ?_ ?_ _); (rotate_left; (dsimp only; omega))))), var2_new _ _ _ _ _ hgw.symm⟩
        rintro W3 hS3
        have HS3 := Lib.hid hS3
        try rw [hgw]
        clear hS3 HS2 hgw c0 c1
        obtain ⟨t0, t1⟩ := HS3.out.2.two
        go_wp2_with fail
        (with_reducible refine (HCN.out _).mono ?_); rintro e1 w4 ⟨v, fe, rfl, hsp, hb4⟩
        have HBC := Lib.hid (num_doc5 (lim_bounds5 HL.out HLI.out).1 (lim_bounds5 HL.out HLI.out).2 hsp.out)
        have HS4 := Lib.hid (And.intro (HS3.out.1.turn hb4) (HS3.out.2.below hb4))
        clear hsp hb4 HCN HS3 t0 t1
        rcases HBC.out with ⟨rfl, q1, q2, q3⟩ | ⟨rfl, q1, q3⟩ | ⟨q1, q3⟩
        · have HX2 : Hid (go5 en (ns ++ [v]) ((tz6 ts).drop (n' + 1)) = R) := by
            have := HX.out
            rw [HBD.out.2.1, HDR.out, go_ok5 (x := ((a : Int), nums t)) HNE.out HLI.out q3] at this
            exact this
          have HL2 := Lib.hid (lim_snoc5 HL.out HNE.out HLI.out q1 q2)
          have HN2 : Hid ((ns ++ [v]).length = n') := by unfold Hid; rw [List.length_append, HN.out.1]; exact HBD.out.2.1
          have r1 : (v < lo) = False := eq_false (by omega)
          have r2 : (hi < v) = False := eq_false (by omega)
          have HO4 : Hid ((w4.alloc (.cells #[.int .i64 v] 3)).ownsRow B 3 1 u7 ns.length (ns.map (Value.int .i64))) := HS4.out.1.own.alloc _
          have HB4 : Hid (B ≤ (w4.alloc (.cells #[.int .i64 v] 3)).heap.size) := by have := HS4.out.1.sz; unfold Hid; simp; omega
          have HC4 : Hid ((w4.alloc (.cells #[.int .i64 v] 3)).cell? ⟨w4.heap.size, 0, none⟩ = some (.int .i64 v)) := by unfold Hid; simp [go_sem]
          have HLE : Hid (ns.length + 1 ≤ 1000000) := by have := HN.out.1; have := HBD.out.1; unfold Hid; omega
          clear q1 q2 q3 HBC HX
          go_wp2_with (at_builtin; refine app_int5 rfl _ _ rfl rfl HO4.out HB4.out rfl HC4.out HLE.out ?_)
          intro nv2 w5 hown hgr
          have HS5 : Hid (RP5 w gr B g o ts nv2 (ns ++ [v]) w5) := (HS4.out.1.turn (bl_one _ (.cells #[.int .i64 v] 3))).grown hgr (by rw [List.length_append, List.map_append]; exact hown) HBB.out.1 HBB.out.2.1 HBB.out.2.2
          clear hown hgr HO4 HB4 HC4 HS4
          by_cases h2 : n = 2
          · subst h2
            obtain rfl : n' = 3 := by have := HBD.out.2.1; omega
            obtain ⟨x0, x1, x2, hxs⟩ : ∃ x0 x1 x2, ns ++ [v] = [x0, x1, x2] := by
              have := HN2.out
              match ns ++ [v], this with
              | [x0, x1, x2], _ => exact ⟨x0, x1, x2, rfl⟩
            rw [hxs] at HS5 HL2 HX2 HN2
            obtain ⟨gn, cap2, rfl, -, -, -, hi5⟩ := own_ints5 HS5.out.own (by simp)
            have c0 := hi5 0 x0 rfl
            have c1 := hi5 1 x1 rfl
            have c2 := hi5 2 x2 rfl
            obtain ⟨z1, z2, z3⟩ := lim_heads5 HL2.out
            replace z1 := z1 (by simp)
            replace z2 := z2 (by simp)
            replace z3 := z3 (by simp)
            simp only [List.getD_cons_zero, List.getD_cons_succ] at z1 z2 z3
            obtain ⟨y1, hy1⟩ : ∃ y1, x0 + x1 = y1 := ⟨_, rfl⟩
            obtain ⟨y2, hy2⟩ : ∃ y2, y1 + x2 = y2 := ⟨_, rfl⟩
            obtain ⟨y3, hy3⟩ : ∃ y3, 2 * y2 = y3 := ⟨_, rfl⟩
            obtain ⟨y4, hy4⟩ : ∃ y4, 3 + y3 = y4 := ⟨_, rfl⟩
            have u1 : wrap64 (x0 + x1) = y1 := by unfold wrap64; omega
            have u2 : wrap64 (y1 + x2) = y2 := by unfold wrap64; omega
            have u3 : wrap64 (2 * y2) = y3 := by unfold wrap64; omega
            have u4 : wrap64 (3 + y3) = y4 := by unfold wrap64; omega
            have HAL : Hid (all5 [x0, x1, x2] = y4) := by
              have : all5 [x0, x1, x2] = 3 + 2 * (x0 + x1 + x2) := rfl
              unfold Hid
              omega
            have HY4 : Hid ((3 : Int) ≤ y4) := by unfold Hid; omega
            clear hi5 z1 z2 z3 hy1 hy2 hy3 hy4 hxs
            go_upto_region 24 with (fail)
            go_region
            have HU4 := Lib.hid u4
            clear u1 u2 u3 u4 c0 c1 c2
            have HS6 := Lib.hid (HS5.out.turn (bel_drew _))
            go_wp2
            go_roundw
            case rel => exact ⟨[x0, x1, x2], 3, y4, by first | rfl | (rw [HU4.out]) | simp [HU4.out], by first | rfl | simp, ⟨rfl, HAL.out⟩, HY4.out, HL2.out, HX2.out, HS6.out⟩
            case measure => simp [intOf]
          · have b2 : ((n : Int) == 2) = false := beq_eq_false_iff_ne.2 (by omega)
            have b2' : ((n : Int) = 2) = False := eq_false (by omega)
            have b2'' : (n = 2) = False := eq_false h2
            have HAL : Hid (all5 (ns ++ [v]) = m) := by
              have e1 := HN.out.2
              have e2 := HN.out.1
              unfold Hid
              by_cases h3 : n < 2
              · unfold all5 at e1 ⊢
                rw [if_pos (by omega)] at e1
                rw [if_pos (by rw [HN2.out]; have := HBD.out.2.1; omega)]
                exact e1
              · rw [all_app5 (by omega)]
                have := HM5.out (by omega)
                exact this.symm
            clear h2
            go_wp2
            go_roundw
            case rel => exact ⟨ns ++ [v], n', m, rfl, by first | rfl | simp, ⟨HN2.out, HAL.out⟩, by have := HBD.out; omega, HL2.out, HX2.out, HS5.out⟩
            case measure => have := HBD.out; simp [intOf]; omega
        · have HXX : Hid (R = ([], (a : Int), 10)) := by
            have := HX.out
            rw [HBD.out.2.1, HDR.out, go_no5 (x := ((a : Int), nums t)) HNE.out HLI.out q3 (by decide)] at this
            exact this.symm
          have HS0 : Hid (Below w.heap.size w w4 ∧ Var w4 gr [.slice none 0 0, .slice none 0 0, .slice none 0 0] ∧ Var w4 gw [.int .i64 (a : Int), .string t]) := ⟨HS4.out.1.hb, HS4.out.1.res, HS4.out.2⟩
          clear HX HBC q3 HS4
          by_cases r1 : v < lo
          · have r1' : (v < lo) = True := eq_true r1
            clear q1 r1
            go_upto_region 21 with (fail)
            refine wp_region_held_drew (S := fun V => Below w.heap.size w V ∧ Var V gr [.slice none 0 0, .slice none 0 0, .slice none 0 0] ∧ Var V gw [.int .i64 (a : Int), .string t]) (by kernel_rfl) ?_ (fun hHeld => ?_)
            · exact ⟨bl_trans HS0.out.1 (bel_drew _), HS0.out.2.1.below (bel_drew _), HS0.out.2.2.below (bel_drew _)⟩
            revert hHeld
            generalize World.drew _ = W1
            intro hHeld 
            refine wpAnyH_take (i := 0) (v := ?_) rfl (by kernel_rfl) (by kernel_rfl) (by kernel_rfl) (fun _ _ _ h => h) (Or.inl ⟨by rfl, ?_⟩) (by assumption) ?_
            rotate_left
            · intro Wq hSw
              clear hSw
              go_simp
              all_goals (with_reducible rfl)
            try simp only [Act.put, List.getElem_toArray, List.getElem_cons_zero, List.setIfInBounds_toArray, List.set_cons_zero, List.set_cons_succ]
            refine wpAnyH_take (i := 1) (v := ?_) rfl (by kernel_rfl) (by kernel_rfl) (by kernel_rfl) (fun _ _ _ h => h) (Or.inl ⟨by rfl, ?_⟩) (by assumption) ?_
            rotate_left
            · intro Wq hSw
              clear hSw
              go_simp
              all_goals (with_reducible rfl)
            try simp only [Act.put, List.getElem_toArray, List.getElem_cons_succ, List.getElem_cons_zero, List.setIfInBounds_toArray, List.set_cons_zero, List.set_cons_succ]
            refine wpAnyH_take (i := 2) (v := ?_) rfl (by kernel_rfl) (by kernel_rfl) (by kernel_rfl) (fun _ _ _ h => h) (Or.inl ⟨by rfl, ?_⟩) (by assumption) ?_
            rotate_left
            · intro Wq hSw
              obtain ⟨c0, c1⟩ := hSw.2.2.two
              clear hSw
              go_simp
              all_goals (with_reducible rfl)
            try simp only [Act.put, List.getElem_toArray, List.getElem_cons_succ, List.getElem_cons_zero, List.setIfInBounds_toArray, List.set_cons_zero, List.set_cons_succ]
            refine wpAnyH_take (i := 3) (v := ?_) rfl (by kernel_rfl) (by kernel_rfl) (by kernel_rfl) (fun _ _ _ h => h) (Or.inl ⟨by rfl, ?_⟩) (by assumption) ?_
            rotate_left
            · intro Wq hSw
              clear hSw
              go_simp
              all_goals (with_reducible rfl)
            try simp only [Act.put, List.getElem_toArray, List.getElem_cons_succ, List.getElem_cons_zero, List.setIfInBounds_toArray, List.set_cons_zero, List.set_cons_succ]
            refine r1 (i := 4) rfl (fun K hK => ?_)
            obtain ⟨d0, d1, d2⟩ := hHeld.2.1.three6
            obtain ⟨f0, f1, f2⟩ := hHeld.2.1.free36
            go_simp
            refine hK.out _ _ ⟨bl_set (bl_set (bl_set hHeld.1 (by dsimp only; have := HGR.out; omega) _) (by dsimp only; have := HGR.out; omega) _) (by dsimp only; have := HGR.out; omega) _, hHeld.2.1.set3_6 _ _ _, ((hHeld.2.2.far (by dsimp only; have := HGW.out; omega) _).far (by dsimp only; have := HGW.out; omega) _).far (by dsimp only; have := HGW.out; omega) _⟩ (fun hHeld2 => ?_)
            clear hK K hHeld d0 d1 d2 f0 f1 f2
            have hHeld := hHeld2
            clear hHeld2
            try simp only [Act.put, List.getElem_toArray, List.getElem_cons_succ, List.getElem_cons_zero, List.setIfInBounds_toArray, List.set_cons_zero, List.set_cons_succ]
            refine wpAnyH_take (i := 5) (v := ?_) rfl (by kernel_rfl) (by kernel_rfl) (by kernel_rfl) (fun _ _ _ h => h) (Or.inl ⟨by rfl, ?_⟩) (by assumption) ?_
            rotate_left
            · intro Wq hSw
              clear hSw
              go_simp
              all_goals (with_reducible rfl)
            try simp only [Act.put, List.getElem_toArray, List.getElem_cons_succ, List.getElem_cons_zero, List.setIfInBounds_toArray, List.set_cons_zero, List.set_cons_succ]
            refine wpAnyH_take (i := 6) (v := ?_) rfl (by kernel_rfl) (by kernel_rfl) (by kernel_rfl) (fun _ _ _ h => h) (Or.inl ⟨by rfl, ?_⟩) (by assumption) ?_
            rotate_left
            · intro Wq hSw
              clear hSw
              go_simp
              all_goals (with_reducible rfl)
            try simp only [Act.put, List.getElem_toArray, List.getElem_cons_succ, List.getElem_cons_zero, List.setIfInBounds_toArray, List.set_cons_zero, List.set_cons_succ]
            refine wpAnyH_done (by kernel_rfl) ?_ _
            go_wp2_with fail
            obtain ⟨e0, e1, e2⟩ := hHeld.2.1.three6
            refine bodyPost_ret (v := .tuple #[.agg #[.slice none 0 0, .slice none 0 0, .slice none 0 0], .int .i64 (a : Int), .int .i64 10]) (by simp [results, Tryd.results19, go_sem, e0, e1, e2]; done) rfl (res_bad5 HO.out HXX.out (by decide) hHeld.1)
          · have r1' : (v < lo) = False := eq_false r1
            have r2' : (hi < v) = True := eq_true (by omega)
            clear q1 r1
            go_upto_region 21 with (fail)
            refine wp_region_held_drew (S := fun V => Below w.heap.size w V ∧ Var V gr [.slice none 0 0, .slice none 0 0, .slice none 0 0] ∧ Var V gw [.int .i64 (a : Int), .string t]) (by kernel_rfl) ?_ (fun hHeld => ?_)
            · exact ⟨bl_trans HS0.out.1 (bel_drew _), HS0.out.2.1.below (bel_drew _), HS0.out.2.2.below (bel_drew _)⟩
            revert hHeld
            generalize World.drew _ = W1
            intro hHeld 
            refine wpAnyH_take (i := 0) (v := ?_) rfl (by kernel_rfl) (by kernel_rfl) (by kernel_rfl) (fun _ _ _ h => h) (Or.inl ⟨by rfl, ?_⟩) (by assumption) ?_
            rotate_left
            · intro Wq hSw
              clear hSw
              go_simp
              all_goals (with_reducible rfl)
            try simp only [Act.put, List.getElem_toArray, List.getElem_cons_zero, List.setIfInBounds_toArray, List.set_cons_zero, List.set_cons_succ]
            refine wpAnyH_take (i := 1) (v := ?_) rfl (by kernel_rfl) (by kernel_rfl) (by kernel_rfl) (fun _ _ _ h => h) (Or.inl ⟨by rfl, ?_⟩) (by assumption) ?_
            rotate_left
            · intro Wq hSw
              clear hSw
              go_simp
              all_goals (with_reducible rfl)
            try simp only [Act.put, List.getElem_toArray, List.getElem_cons_succ, List.getElem_cons_zero, List.setIfInBounds_toArray, List.set_cons_zero, List.set_cons_succ]
            refine wpAnyH_take (i := 2) (v := ?_) rfl (by kernel_rfl) (by kernel_rfl) (by kernel_rfl) (fun _ _ _ h => h) (Or.inl ⟨by rfl, ?_⟩) (by assumption) ?_
            rotate_left
            · intro Wq hSw
              obtain ⟨c0, c1⟩ := hSw.2.2.two
              clear hSw
              go_simp
              all_goals (with_reducible rfl)
            try simp only [Act.put, List.getElem_toArray, List.getElem_cons_succ, List.getElem_cons_zero, List.setIfInBounds_toArray, List.set_cons_zero, List.set_cons_succ]
            refine wpAnyH_take (i := 3) (v := ?_) rfl (by kernel_rfl) (by kernel_rfl) (by kernel_rfl) (fun _ _ _ h => h) (Or.inl ⟨by rfl, ?_⟩) (by assumption) ?_
            rotate_left
            · intro Wq hSw
              clear hSw
              go_simp
              all_goals (with_reducible rfl)
            try simp only [Act.put, List.getElem_toArray, List.getElem_cons_succ, List.getElem_cons_zero, List.setIfInBounds_toArray, List.set_cons_zero, List.set_cons_succ]
            refine r1 (i := 4) rfl (fun K hK => ?_)
            obtain ⟨d0, d1, d2⟩ := hHeld.2.1.three6
            obtain ⟨f0, f1, f2⟩ := hHeld.2.1.free36
            go_simp
            refine hK.out _ _ ⟨bl_set (bl_set (bl_set hHeld.1 (by dsimp only; have := HGR.out; omega) _) (by dsimp only; have := HGR.out; omega) _) (by dsimp only; have := HGR.out; omega) _, hHeld.2.1.set3_6 _ _ _, ((hHeld.2.2.far (by dsimp only; have := HGW.out; omega) _).far (by dsimp only; have := HGW.out; omega) _).far (by dsimp only; have := HGW.out; omega) _⟩ (fun hHeld2 => ?_)
            clear hK K hHeld d0 d1 d2 f0 f1 f2
            have hHeld := hHeld2
            clear hHeld2
            try simp only [Act.put, List.getElem_toArray, List.getElem_cons_succ, List.getElem_cons_zero, List.setIfInBounds_toArray, List.set_cons_zero, List.set_cons_succ]
            refine wpAnyH_take (i := 5) (v := ?_) rfl (by kernel_rfl) (by kernel_rfl) (by kernel_rfl) (fun _ _ _ h => h) (Or.inl ⟨by rfl, ?_⟩) (by assumption) ?_
            rotate_left
            · intro Wq hSw
              clear hSw
              go_simp
              all_goals (with_reducible rfl)
            try simp only [Act.put, List.getElem_toArray, List.getElem_cons_succ, List.getElem_cons_zero, List.setIfInBounds_toArray, List.set_cons_zero, List.set_cons_succ]
            refine wpAnyH_take (i := 6) (v := ?_) rfl (by kernel_rfl) (by kernel_rfl) (by kernel_rfl) (fun _ _ _ h => h) (Or.inl ⟨by rfl, ?_⟩) (by assumption) ?_
            rotate_left
            · intro Wq hSw
              clear hSw
              go_simp
              all_goals (with_reducible rfl)
            try simp only [Act.put, List.getElem_toArray, List.getElem_cons_succ, List.getElem_cons_zero, List.setIfInBounds_toArray, List.set_cons_zero, List.set_cons_succ]
            refine wpAnyH_done (by kernel_rfl) ?_ _
            go_wp2_with fail
            obtain ⟨e0, e1, e2⟩ := hHeld.2.1.three6
            refine bodyPost_ret (v := .tuple #[.agg #[.slice none 0 0, .slice none 0 0, .slice none 0 0], .int .i64 (a : Int), .int .i64 10]) (by simp [results, Tryd.results19, go_sem, e0, e1, e2]; done) rfl (res_bad5 HO.out HXX.out (by decide) hHeld.1)
        · have HXX : Hid (R = ([], (a : Int), fe)) := by
            have := HX.out
            rw [HBD.out.2.1, HDR.out, go_no5 (x := ((a : Int), nums t)) HNE.out HLI.out q3 (by omega)] at this
            exact this.symm
          have HFE : Hid (fe ≠ 0) := by unfold Hid; omega
          have r1' : (fe == 0) = false := beq_eq_false_iff_ne.2 HFE.out
          have r2' : (fe = 0) = False := eq_false HFE.out
          have r3' : (fe != 0) = true := by unfold bne; rw [r1']; rfl
          have HS0 : Hid (Below w.heap.size w w4 ∧ Var w4 gr [.slice none 0 0, .slice none 0 0, .slice none 0 0] ∧ Var w4 gw [.int .i64 (a : Int), .string t]) := ⟨HS4.out.1.hb, HS4.out.1.res, HS4.out.2⟩
          clear HX HBC q3 HS4 q1
          go_upto_region 21 with (fail)
          refine wp_region_held_drew (S := fun V => Below w.heap.size w V ∧ Var V gr [.slice none 0 0, .slice none 0 0, .slice none 0 0] ∧ Var V gw [.int .i64 (a : Int), .string t]) (by kernel_rfl) ?_ (fun hHeld => ?_)
          · exact ⟨bl_trans HS0.out.1 (bel_drew _), HS0.out.2.1.below (bel_drew _), HS0.out.2.2.below (bel_drew _)⟩
          revert hHeld
          generalize World.drew _ = W1
          intro hHeld 
          refine wpAnyH_take (i := 0) (v := ?_) rfl (by kernel_rfl) (by kernel_rfl) (by kernel_rfl) (fun _ _ _ h => h) (Or.inl ⟨by rfl, ?_⟩) (by assumption) ?_
          rotate_left
          · intro Wq hSw
            clear hSw
            go_simp
            all_goals (with_reducible rfl)
          try simp only [Act.put, List.getElem_toArray, List.getElem_cons_zero, List.setIfInBounds_toArray, List.set_cons_zero, List.set_cons_succ]
          refine wpAnyH_take (i := 1) (v := ?_) rfl (by kernel_rfl) (by kernel_rfl) (by kernel_rfl) (fun _ _ _ h => h) (Or.inl ⟨by rfl, ?_⟩) (by assumption) ?_
          rotate_left
          · intro Wq hSw
            clear hSw
            go_simp
            all_goals (with_reducible rfl)
          try simp only [Act.put, List.getElem_toArray, List.getElem_cons_succ, List.getElem_cons_zero, List.setIfInBounds_toArray, List.set_cons_zero, List.set_cons_succ]
          refine wpAnyH_take (i := 2) (v := ?_) rfl (by kernel_rfl) (by kernel_rfl) (by kernel_rfl) (fun _ _ _ h => h) (Or.inl ⟨by rfl, ?_⟩) (by assumption) ?_
          rotate_left
          · intro Wq hSw
            obtain ⟨c0, c1⟩ := hSw.2.2.two
            clear hSw
            go_simp
            all_goals (with_reducible rfl)
          try simp only [Act.put, List.getElem_toArray, List.getElem_cons_succ, List.getElem_cons_zero, List.setIfInBounds_toArray, List.set_cons_zero, List.set_cons_succ]
          refine wpAnyH_take (i := 3) (v := ?_) rfl (by kernel_rfl) (by kernel_rfl) (by kernel_rfl) (fun _ _ _ h => h) (Or.inl ⟨by rfl, ?_⟩) (by assumption) ?_
          rotate_left
          · intro Wq hSw
            clear hSw
            go_simp
            all_goals (with_reducible rfl)
          try simp only [Act.put, List.getElem_toArray, List.getElem_cons_succ, List.getElem_cons_zero, List.setIfInBounds_toArray, List.set_cons_zero, List.set_cons_succ]
          refine r1 (i := 4) rfl (fun K hK => ?_)
          obtain ⟨d0, d1, d2⟩ := hHeld.2.1.three6
          obtain ⟨f0, f1, f2⟩ := hHeld.2.1.free36
          go_simp
          refine hK.out _ _ ⟨bl_set (bl_set (bl_set hHeld.1 (by dsimp only; have := HGR.out; omega) _) (by dsimp only; have := HGR.out; omega) _) (by dsimp only; have := HGR.out; omega) _, hHeld.2.1.set3_6 _ _ _, ((hHeld.2.2.far (by dsimp only; have := HGW.out; omega) _).far (by dsimp only; have := HGW.out; omega) _).far (by dsimp only; have := HGW.out; omega) _⟩ (fun hHeld2 => ?_)
          clear hK K hHeld d0 d1 d2 f0 f1 f2
          have hHeld := hHeld2
          clear hHeld2
          try simp only [Act.put, List.getElem_toArray, List.getElem_cons_succ, List.getElem_cons_zero, List.setIfInBounds_toArray, List.set_cons_zero, List.set_cons_succ]
          refine wpAnyH_take (i := 5) (v := ?_) rfl (by kernel_rfl) (by kernel_rfl) (by kernel_rfl) (fun _ _ _ h => h) (Or.inl ⟨by rfl, ?_⟩) (by assumption) ?_
          rotate_left
          · intro Wq hSw
            clear hSw
            go_simp
            all_goals (with_reducible rfl)
          try simp only [Act.put, List.getElem_toArray, List.getElem_cons_succ, List.getElem_cons_zero, List.setIfInBounds_toArray, List.set_cons_zero, List.set_cons_succ]
          refine wpAnyH_take (i := 6) (v := ?_) rfl (by kernel_rfl) (by kernel_rfl) (by kernel_rfl) (fun _ _ _ h => h) (Or.inl ⟨by rfl, ?_⟩) (by assumption) ?_
          rotate_left
          · intro Wq hSw
            clear hSw
            go_simp
            all_goals (with_reducible rfl)
          try simp only [Act.put, List.getElem_toArray, List.getElem_cons_succ, List.getElem_cons_zero, List.setIfInBounds_toArray, List.set_cons_zero, List.set_cons_succ]
          refine wpAnyH_done (by kernel_rfl) ?_ _
          go_wp2_with fail
          obtain ⟨e0, e1, e2⟩ := hHeld.2.1.three6
          refine bodyPost_ret (v := .tuple #[.agg #[.slice none 0 0, .slice none 0 0, .slice none 0 0], .int .i64 (a : Int), .int .i64 fe]) (by simp [results, Tryd.results19, go_sem, e0, e1, e2]; done) rfl (res_bad5 HO.out HXX.out HFE.out hHeld.1)
    · obtain rfl : m = (n : Int) := by omega
      have hn9 : n' ≤ 100000 := by omega
      have hall : (ns.length : Int) = all5 ns := by rw [HN.out.1, HN.out.2]
      have b9 : ((n : Int) < (n : Int)) = False := eq_false (by omega)
      obtain ⟨gn, capn, eu, hgB, hgn, hcapn, hi5⟩ := own_ints5 HS.out.own (by have := HN.out.1; omega)
      rw [HN.out.1] at eu
      subst eu
      have hi5' := Lib.hid hi5
      have HGN : Hid (gr < gn ∧ B ≤ gn ∧ gn < wr.heap.size ∧ w.heap.size ≤ gr) := by
        have := HBB.out
        have := HGR.out
        unfold Hid; omega
      clear hi5 hgB hgn hcapn hlt hnm hm5
      by_cases hmore : n' < ts.length
      · obtain ⟨x, hx⟩ : ∃ x, ts[n'] = x := ⟨_, rfl⟩
        obtain ⟨a, t⟩ := x
        have HXX : Hid (R = ([], (a : Int), 11)) := by
          have := HX.out
          have h9 := tz_drop6 hmore
          rw [hx] at h9
          rw [hn', h9, go_over5 (x := ((a : Int), nums t)) hall] at this
          exact this.symm
        have h1 : ((n' : Int) < (ts.length : Int)) = True := eq_true (by omega)
        have h2 : (n' < ts.length) = True := eq_true hmore
        have h5 : ((0 : Int) ≤ (n' : Int)) = True := eq_true (by omega)
        have hw4 : IntKind.i64.wrap (n' : Int) = (n' : Int) := (wnat5 hn9).2
        have c0 := (tok_at6 HS.out.tok hmore hx).1
        have HS0 : Hid (Below w.heap.size w wr ∧ Var wr gr [.slice none 0 0, .slice none 0 0, .slice none 0 0] ∧ wr.cell? ⟨g, o + n' * 2, none⟩ = some (.int .i64 (a : Int))) := ⟨HS.out.hb, HS.out.res, c0⟩
        clear hx hall HX HS c0 m3 m4 hn' hmore hi5' hn9
        go_upto_region 26 with (fail)
        refine wp_region_held_drew (S := fun V => Below w.heap.size w V ∧ Var V gr [.slice none 0 0, .slice none 0 0, .slice none 0 0] ∧ V.cell? ⟨g, o + n' * 2, none⟩ = some (.int .i64 (a : Int))) (by kernel_rfl) ?_ (fun hHeld => ?_)
        · exact ⟨bl_trans HS0.out.1 (bel_drew _), HS0.out.2.1.below (bel_drew _), HS0.out.2.2⟩
        revert hHeld
        generalize World.drew _ = W1
        intro hHeld 
        refine wpAnyH_take (i := 0) (v := ?_) rfl (by kernel_rfl) (by kernel_rfl) (by kernel_rfl) (fun _ _ _ h => h) (Or.inl ⟨by rfl, ?_⟩) (by assumption) ?_
        rotate_left
        · intro Wq hSw
          clear hSw
          go_simp
          all_goals (with_reducible rfl)
        try simp only [Act.put, List.getElem_toArray, List.getElem_cons_zero, List.setIfInBounds_toArray, List.set_cons_zero, List.set_cons_succ]
        refine wpAnyH_take (i := 1) (v := ?_) rfl (by kernel_rfl) (by kernel_rfl) (by kernel_rfl) (fun _ _ _ h => h) (Or.inl ⟨by rfl, ?_⟩) (by assumption) ?_
        rotate_left
        · intro Wq hSw
          clear hSw
          go_simp
          all_goals (with_reducible rfl)
        try simp only [Act.put, List.getElem_toArray, List.getElem_cons_succ, List.getElem_cons_zero, List.setIfInBounds_toArray, List.set_cons_zero, List.set_cons_succ]
        refine wpAnyH_take (i := 2) (v := ?_) rfl (by kernel_rfl) (by kernel_rfl) (by kernel_rfl) (fun _ _ _ h => h) (Or.inl ⟨by rfl, ?_⟩) (by assumption) ?_
        rotate_left
        · intro Wq hSw
          clear hSw
          go_simp
          all_goals (with_reducible rfl)
        try simp only [Act.put, List.getElem_toArray, List.getElem_cons_succ, List.getElem_cons_zero, List.setIfInBounds_toArray, List.set_cons_zero, List.set_cons_succ]
        refine wpAnyH_take (i := 3) (v := ?_) rfl (by kernel_rfl) (by kernel_rfl) (by kernel_rfl) (fun _ _ _ h => h) (Or.inl ⟨by rfl, ?_⟩) (by assumption) ?_
        rotate_left
        · intro Wq hSw
          clear hSw
          go_simp
          all_goals (with_reducible rfl)
        try simp only [Act.put, List.getElem_toArray, List.getElem_cons_succ, List.getElem_cons_zero, List.setIfInBounds_toArray, List.set_cons_zero, List.set_cons_succ]
        refine wpAnyH_take (i := 4) (v := ?_) rfl (by kernel_rfl) (by kernel_rfl) (by kernel_rfl) (fun _ _ _ h => h) (Or.inl ⟨by rfl, ?_⟩) (by assumption) ?_
        rotate_left
        · intro Wq hSw
          clear hSw
          go_simp
          all_goals (with_reducible rfl)
        try simp only [Act.put, List.getElem_toArray, List.getElem_cons_succ, List.getElem_cons_zero, List.setIfInBounds_toArray, List.set_cons_zero, List.set_cons_succ]
        refine wpAnyH_take (i := 5) (v := ?_) rfl (by kernel_rfl) (by kernel_rfl) (by kernel_rfl) (fun _ _ _ h => h) (Or.inl ⟨by rfl, ?_⟩) (by assumption) ?_
        rotate_left
        · intro Wq hSw
          clear hSw
          go_simp
          all_goals (with_reducible rfl)
        try simp only [Act.put, List.getElem_toArray, List.getElem_cons_succ, List.getElem_cons_zero, List.setIfInBounds_toArray, List.set_cons_zero, List.set_cons_succ]
        refine wpAnyH_take (i := 6) (v := ?_) rfl (by kernel_rfl) (by kernel_rfl) (by kernel_rfl) (fun _ _ _ h => h) (Or.inl ⟨by rfl, ?_⟩) (by assumption) ?_
        rotate_left
        · intro Wq hSw
          have c0 := hSw.2.2
          clear hSw
          go_simp
          all_goals (with_reducible rfl)
        try simp only [Act.put, List.getElem_toArray, List.getElem_cons_succ, List.getElem_cons_zero, List.setIfInBounds_toArray, List.set_cons_zero, List.set_cons_succ]
        refine r1 (i := 7) rfl (fun K hK => ?_)
        obtain ⟨d0, d1, d2⟩ := hHeld.2.1.three6
        obtain ⟨f0, f1, f2⟩ := hHeld.2.1.free36
        go_simp
        refine hK.out _ _ ⟨bl_set (bl_set (bl_set hHeld.1 (by dsimp only; have := HGR.out; omega) _) (by dsimp only; have := HGR.out; omega) _) (by dsimp only; have := HGR.out; omega) _, hHeld.2.1.set3_6 _ _ _, (World.cell?_setCell_far _ _ _ _ (by dsimp only; have := HGG.out; omega)).trans ((World.cell?_setCell_far _ _ _ _ (by dsimp only; have := HGG.out; omega)).trans ((World.cell?_setCell_far _ _ _ _ (by dsimp only; have := HGG.out; omega)).trans hHeld.2.2))⟩ (fun hHeld2 => ?_)
        clear hK K hHeld d0 d1 d2 f0 f1 f2
        have hHeld := hHeld2
        clear hHeld2
        try simp only [Act.put, List.getElem_toArray, List.getElem_cons_succ, List.getElem_cons_zero, List.setIfInBounds_toArray, List.set_cons_zero, List.set_cons_succ]
        refine wpAnyH_take (i := 8) (v := ?_) rfl (by kernel_rfl) (by kernel_rfl) (by kernel_rfl) (fun _ _ _ h => h) (Or.inl ⟨by rfl, ?_⟩) (by assumption) ?_
        rotate_left
        · intro Wq hSw
          clear hSw
          go_simp
          all_goals (with_reducible rfl)
        try simp only [Act.put, List.getElem_toArray, List.getElem_cons_succ, List.getElem_cons_zero, List.setIfInBounds_toArray, List.set_cons_zero, List.set_cons_succ]
        refine wpAnyH_take (i := 9) (v := ?_) rfl (by kernel_rfl) (by kernel_rfl) (by kernel_rfl) (fun _ _ _ h => h) (Or.inl ⟨by rfl, ?_⟩) (by assumption) ?_
        rotate_left
        · intro Wq hSw
          clear hSw
          go_simp
          all_goals (with_reducible rfl)
        try simp only [Act.put, List.getElem_toArray, List.getElem_cons_succ, List.getElem_cons_zero, List.setIfInBounds_toArray, List.set_cons_zero, List.set_cons_succ]
        refine wpAnyH_done (by kernel_rfl) ?_ _
        go_wp2_with fail
        obtain ⟨e0, e1, e2⟩ := hHeld.2.1.three6
        refine bodyPost_ret (v := .tuple #[.agg #[.slice none 0 0, .slice none 0 0, .slice none 0 0], .int .i64 (a : Int), .int .i64 11]) (by simp [results, Tryd.results19, go_sem, e0, e1, e2]; done) rfl (res_bad5 HO.out HXX.out (by decide) hHeld.1)
      · clear hn9
        have HXX : Hid (R = (ns, 0, 0)) := by
          have := HX.out
          rw [go_end_drop5 (by omega), go_end5 hall] at this
          exact this.symm
        have h1 : ((n' : Int) < (ts.length : Int)) = False := eq_false (by omega)
        have h2 : (n' < ts.length) = False := eq_false hmore
        obtain ⟨p, l, i⟩ := Q
        obtain ⟨rfl, rfl, hnn⟩ := HO.out.good HXX.out
        dsimp only at hnn
        have hh := nums_head5 p l i
        have hln : n = 3 + 2 * (p.length + l.length + i.length) := by
          rw [← HN.out.1, hnn]
          unfold numsI5
          simp [flat_len5]
          omega
        obtain ⟨y1, y2, y3⟩ := lim_heads5 HL.out
        rw [hnn] at y1 y2 y3
        replace y1 := (y1 (by unfold numsI5; simp)).2
        replace y2 := (y2 (by unfold numsI5; simp)).2
        replace y3 := (y3 (by unfold numsI5; simp)).2
        have y1' : p.length ≤ 200 := by
          have : (p.length : Int) ≤ 200 := y1
          omega
        have y2' : l.length ≤ 400 := by
          have : (l.length : Int) ≤ 400 := y2
          omega
        have y3' : i.length ≤ 400 := by
          have : (i.length : Int) ≤ 400 := y3
          omega
        have HLN : Hid (n = 3 + 2 * (p.length + l.length + i.length) ∧ p.length ≤ 200 ∧ l.length ≤ 400 ∧ i.length ≤ 400) := ⟨hln, y1', y2', y3'⟩
        have HNN := Lib.hid hnn
        rw [hnn] at hi5'
        have cP := hi5'.out 0 _ hh.1
        obtain ⟨gp, hgp⟩ : ∃ gp, wr.heap.size = gp := ⟨_, rfl⟩
        have HGP : Hid (gr < gn ∧ gn < gp ∧ w.heap.size ≤ gr ∧ gr < gp ∧ w.heap.size ≤ gp) := by
          have := HGN.out
          unfold Hid; omega
        clear hall HX m3 m4 hn' hmore hnn hh hln y1 y2 y3 y1' y2' y3' cP HL HN
        go_upto_region 28 with (fail)
        refine wp_abs (fun V => PO5 w gr gn gp (numsI5 p l i) (.slice none 0 0) (.slice none 0 0) (.slice none 0 0) [] [] [] V) ?_ ?_
        · refine ⟨bl_trans HS.out.hb (by repeat (first | (with_reducible exact Below.refl _ _) | (with_reducible refine bl_alloc ?_ _) | (with_reducible refine Below.drew ?_) | (with_reducible refine below_drewN' ?_ _) | ((with_reducible refine bl_set ?_ ?_ _); (rotate_left; (dsimp only; omega))))), HS.out.res.below (by repeat (first | (with_reducible exact Below.refl _ _) | (with_reducible refine bl_alloc ?_ _) | (with_reducible refine Below.drew ?_) | (with_reducible refine below_drewN' ?_ _) | ((with_reducible refine bl_set ?_ ?_ _); (rotate_left; (dsimp only; omega))))), ?_, hi5'.out.below (B := wr.heap.size) (by repeat (first | (with_reducible exact Below.refl _ _) | (with_reducible refine bl_alloc ?_ _) | (with_reducible refine Below.drew ?_) | (with_reducible refine below_drewN' ?_ _) | ((with_reducible refine bl_set ?_ ?_ _); (rotate_left; (dsimp only; omega))))) HGN.out.2.2.1, World.ownsRow_nil _ _ _ _, World.ownsRow_nil _ _ _ _, World.ownsRow_nil _ _ _ _, fun g h => by (cases h), fun g h => by (cases h), fun g h => by (cases h)⟩
          exact var3o_new _ _ _ _ _ _ hgp.symm
        rintro W2 hS2
        have HP := Lib.hid hS2
        try rw [hgp]
        clear hS2 HS hgp hi5' HGN HXX
        go_wp2_with fail
        clear hw1 hw2 hw3 h1 h2 b9
        go_loopw [16] (fun iv W => ∃ (k j : Nat) (vp vl vi : Value), iv = .int .i64 (j : Int) ∧ j = 3 + 2 * k ∧ k ≤ p.length + l.length + i.length ∧ PO5 w gr gn gp (numsI5 p l i) vp vl vi (p.take k) (l.take (k - p.length)) (i.take (k - p.length - l.length)) W) (fun iv _ => 3000 - (intOf iv).toNat)
        case atStart => exact ⟨0, 3, _, _, _, rfl, rfl, Nat.zero_le _, by simpa using HP.out⟩
        case round =>
          obtain ⟨k, j, vp, vl, vi, rfl, hj, hk, hP⟩ := hrel
          clear HP
          have HP := Lib.hid hP
          have HJ := Lib.hid hj
          obtain ⟨DP, hDP⟩ : ∃ D, p.take k = D := ⟨_, rfl⟩
          obtain ⟨DL, hDL⟩ : ∃ D, l.take (k - p.length) = D := ⟨_, rfl⟩
          obtain ⟨DI, hDI⟩ : ∃ D, i.take (k - p.length - l.length) = D := ⟨_, rfl⟩
          rw [hDP, hDL, hDI] at HP hP
          have HDD : Hid (p.take k = DP ∧ l.take (k - p.length) = DL ∧ i.take (k - p.length - l.length) = DI) := ⟨hDP, hDL, hDI⟩
          have HDL : Hid (DP.length ≤ 1000 ∧ DL.length ≤ 1000 ∧ DI.length ≤ 1000) := by
            rw [← hDP, ← hDL, ← hDI]
            simp only [List.length_take]
            have := HLN.out
            unfold Hid
            omega
          obtain ⟨ap, cp, rfl, -, -, -, -⟩ := own_row5 hP.op
          obtain ⟨al, cl, rfl, -, -, -, -⟩ := own_row5 hP.ol
          obtain ⟨ai, ci, rfl, -, -, -, -⟩ := own_row5 hP.oi
          clear hP hDP hDL hDI
          by_cases hlt : k < p.length + l.length + i.length
          · by_cases hA : k < p.length
            ·
              clear CN HOK HT0 hlen HO HNN
              repeat (first | revert ‹Value› | revert ‹World› | revert ‹Act → World → Prop› | revert ‹Exit → Act → World → Prop› | revert ‹Option Addr› | revert ‹List (Int × Int)› | revert ‹Int› | revert ‹ByteArray› | revert ‹List (Nat × ByteArray)› | revert ‹List Int› | revert ‹Nat› | revert ‹List Int × Int × Int›)
              exact hA5.out
            · by_cases hB : k < p.length + l.length
              ·
                clear CN HOK HT0 hlen HO HNN
                repeat (first | revert ‹Value› | revert ‹World› | revert ‹Act → World → Prop› | revert ‹Exit → Act → World → Prop› | revert ‹Option Addr› | revert ‹List (Int × Int)› | revert ‹Int› | revert ‹ByteArray› | revert ‹List (Nat × ByteArray)› | revert ‹List Int› | revert ‹Nat› | revert ‹List Int × Int × Int›)
                exact hB5.out
              ·
                clear CN HOK HT0 hlen HO HNN
                repeat (first | revert ‹Value› | revert ‹World› | revert ‹Act → World → Prop› | revert ‹Exit → Act → World → Prop› | revert ‹Option Addr› | revert ‹List (Int × Int)› | revert ‹Int› | revert ‹ByteArray› | revert ‹List (Nat × ByteArray)› | revert ‹List Int› | revert ‹Nat› | revert ‹List Int × Int × Int›)
                exact hC5.out
          · obtain rfl : k = p.length + l.length + i.length := by omega
            have HE := HP.out
            obtain ⟨e1, e2, e3⟩ := HDD.out
            rw [List.take_of_length_le (by omega)] at e1 e2 e3
            have HDE : Hid (p = DP ∧ l = DL ∧ i = DI) := ⟨e1, e2, e3⟩
            clear e1 e2 e3
            have b9 : ((j : Int) < (n : Int)) = False := eq_false (by have := HLN.out; omega)
            have b10 : (j < n) = False := eq_false (by have := HLN.out; omega)
            obtain ⟨x0, x1, x2⟩ := HE.var.three6
            obtain ⟨z0, z1, z2⟩ := HE.res.three6
            obtain ⟨y0, y1, y2⟩ := HE.res.free36
            clear HE hlt hk hj
            go_wp2_with fail
            obtain ⟨e0, e1, e2⟩ := (HP.out.res.set3_6 (.slice ap DP.length cp) (.slice al DL.length cl) (.slice ai DI.length ci)).three6
            refine bodyPost_ret (v := .tuple #[.agg #[.slice ap DP.length cp, .slice al DL.length cl, .slice ai DI.length ci], .int .i64 0, .int .i64 0]) (by simp [results, Tryd.results19, go_sem, e0, e1, e2]; done) rfl ?_
            obtain ⟨rfl, rfl, rfl⟩ := HDE.out
            refine ⟨_, _, _, rfl, ?_, ?_, ?_, ?_⟩
            · exact own_mono6 (own_set5 (own_set5 (own_set5 HP.out.op _ (by dsimp only; have := HGP.out; omega) _) _ (by dsimp only; have := HGP.out; omega) _) _ (by dsimp only; have := HGP.out; omega) _) (by have := HGP.out; omega)
            · exact own_mono6 (own_set5 (own_set5 (own_set5 HP.out.ol _ (by dsimp only; have := HGP.out; omega) _) _ (by dsimp only; have := HGP.out; omega) _) _ (by dsimp only; have := HGP.out; omega) _) (by have := HGP.out; omega)
            · exact own_mono6 (own_set5 (own_set5 (own_set5 HP.out.oi _ (by dsimp only; have := HGP.out; omega) _) _ (by dsimp only; have := HGP.out; omega) _) _ (by dsimp only; have := HGP.out; omega) _) (by have := HGP.out; omega)
            · exact bl_set (bl_set (bl_set HP.out.hb (by dsimp only; have := HGP.out; omega) _) (by dsimp only; have := HGP.out; omega) _) (by dsimp only; have := HGP.out; omega) _⟩
end Go.Proofs.YtdpbmkfgolemjaaDoor
