/-
  Contract of sorts.Box.
-/
import Derived.Test.YtmkegehkifpkjaaSVar
namespace Go.Proofs.Ytmkegehkifpkjaa
open Go.RowKit

/-- the box of a row, and whether there is one -/
def BoxIs (p : List Pt) (lo hi : Pt) (ok : Bool) : Prop := (ok = false ∧ p.length = 0 ∧ lo = ⟨0, 0⟩ ∧ hi = ⟨0, 0⟩) ∨ (ok = true ∧ 0 < p.length ∧ BoxTo p p.length lo hi)
set_option maxHeartbeats 8000000 in
set_option maxRecDepth 100000 in
theorem box_l (p : List Pt) (ad : Option Addr) (cap : Nat) (w : World) (hP : PtRow w ad p) (_ : p.length ≤ cap) (hlen : p.length ≤ 10000) :
    Calls Try.prog 18 #[.slice ad p.length cap] w fun e w' => ∃ lo hi ok, e = .returned (.tuple #[.agg #[.int .i64 lo.x, .int .i64 lo.y], .agg #[.int .i64 hi.x, .int .i64 hi.y], .bool ok]) ∧ BoxIs p lo hi ok ∧ Below w.heap.size w w' := by
  have HP0 := Lib.hid hP
  clear hP
  go_enter Try.func18, Try.ntmps18
  go_upto_region 1 with (fail)
  have G0 := Lib.hid ((⟨Below.refl _ _, Nat.le_refl _⟩ : Grew w 0 w))
  rcases Nat.eq_zero_or_pos p.length with h0 | h0
  · have b0 : ((p.length : Int) = 0) = True := eq_true (by omega)
    have b1 : ((p.length : Int) == 0) = true := beq_iff_eq.2 (by omega)
    have b2 : (p = []) = True := eq_true (List.length_eq_zero_iff.1 h0)
    have HV2 := Lib.hid ((var2_new w (.int .i64 0) (.int .i64 0) 28 w.heap.size rfl).below (bl_one _ (.cells #[.int .i64 0, .int .i64 0] 28)))
    have HV3 := Lib.hid (var2_new (w.alloc (.cells #[.int .i64 0, .int .i64 0] 28)) (.int .i64 0) (.int .i64 0) 28 (w.heap.size + 1) (by simp))
    have HG := Lib.hid ((G0.out.new (.cells #[.int .i64 0, .int .i64 0] 28)).new (.cells #[.int .i64 0, .int .i64 0] 28))
    go_wp2_with fail
    (try simp only [Exit.inBlock, Exit.then])
    refine bodyPost_ret (results_cct rfl rfl rfl (load_pt HV2.out) (load_pt HV3.out)) rfl ?_
    exact ⟨⟨0, 0⟩, ⟨0, 0⟩, false, rfl, .inl ⟨rfl, h0, rfl, rfl⟩, HG.out.hb⟩
  · have b0 : ((p.length : Int) = 0) = False := eq_false (by omega)
    have b1 : ((p.length : Int) == 0) = false := beq_eq_false_iff_ne.mpr (by omega)
    have b2 : (p = []) = False := eq_false (fun h => by rw [h] at h0; exact Nat.lt_irrefl _ h0)
    have d1 : (0 < p.length) = True := eq_true h0
    obtain ⟨g, o, rfl⟩ := HP0.out.some h0
    go_upto_region 3 with (fail)
    have HV2 := Lib.hid ((var2_new w (.int .i64 0) (.int .i64 0) 28 w.heap.size rfl).below (bl_one _ (.cells #[.int .i64 0, .int .i64 0] 28)))
    have HV3 := Lib.hid (var2_new (w.alloc (.cells #[.int .i64 0, .int .i64 0] 28)) (.int .i64 0) (.int .i64 0) 28 (w.heap.size + 1) (by simp))
    have HG := Lib.hid ((G0.out.new (.cells #[.int .i64 0, .int .i64 0] 28)).new (.cells #[.int .i64 0, .int .i64 0] 28))
    have hsz : ((w.alloc (.cells #[.int .i64 0, .int .i64 0] 28)).alloc (.cells #[.int .i64 0, .int .i64 0] 28)).heap.size = w.heap.size + 2 := by simp
    generalize (w.alloc (.cells #[.int .i64 0, .int .i64 0] 28)).alloc (.cells #[.int .i64 0, .int .i64 0] 28) = W0 at *
    have HP := Lib.hid (HP0.out.below HG.out.hb)
    obtain ⟨k0, k1⟩ := ptRow_at HP.out (i := 0) h0 (t := pget p 0) rfl
    simp only [Nat.zero_mul, Nat.add_zero] at k0 k1
    have hgl : g < W0.heap.size := cell_lt k0
    generalize hp0 : pget p 0 = p0 at *
    go_cut [5, 6] (fun x y W => ∃ g5 g6, x = .pointer (some ⟨g5, 0, none⟩) ∧ y = .pointer (some ⟨g6, 0, none⟩) ∧ g5 ≠ g6 ∧ W0.heap.size ≤ g5 ∧ W0.heap.size ≤ g6 ∧ Var W g5 [.int .i64 p0.x, .int .i64 p0.y] ∧ Var W g6 [.int .i64 p0.x, .int .i64 p0.y] ∧ Below W0.heap.size W0 W)
    case first =>
      have HK0 := Lib.hid k0
      have HK1 := Lib.hid k1
      clear k0 k1
      refine wp_region_held_drew (S := fun V => Below W0.heap.size W0 V) (by kernel_rfl) ?_ (fun hHeld => ?_)
      · exact bel_drew W0
      revert hHeld
      generalize World.drew _ = W1
      intro hHeld
      refine wpAnyH_take (i := 0) (v := ?_) rfl (by kernel_rfl) (by kernel_rfl) (by kernel_rfl) (fun _ _ _ h => h) (Or.inl ⟨by rfl, ?_⟩) (by assumption) ?_
      rotate_left
      · intro Wq hSw
        clear hSw
        go_simp
        all_goals (with_reducible rfl)
      try simp only [Act.put, List.getElem_toArray, List.getElem_cons_zero, List.setIfInBounds_toArray, List.set_cons_zero, List.set_cons_succ]
      refine wpAnyH_take (i := 1) (v := ?_) rfl (by kernel_rfl) (by kernel_rfl) (by kernel_rfl) (fun _ _ _ h => h) (Or.inl ⟨by rfl, ?_⟩) (by assumption) ?_
      rotate_left
      · intro Wq hSw
        clear hSw
        go_simp
        all_goals (with_reducible rfl)
      try simp only [Act.put, List.getElem_toArray, List.getElem_cons_succ, List.getElem_cons_zero, List.setIfInBounds_toArray, List.set_cons_zero, List.set_cons_succ]
      refine wpAnyH_take (i := 2) (v := ?_) rfl (by kernel_rfl) (by kernel_rfl) (by kernel_rfl) (fun _ _ _ h => h) (Or.inl ⟨by rfl, ?_⟩) (by assumption) ?_
      rotate_left
      · intro Wq hSw
        have k0 := (hSw.cell (cell_lt HK0.out)).trans HK0.out
        have k1 := (hSw.cell (cell_lt HK1.out)).trans HK1.out
        clear hSw
        go_simp
        all_goals (with_reducible rfl)
      try simp only [Act.put, List.getElem_toArray, List.getElem_cons_succ, List.getElem_cons_zero, List.setIfInBounds_toArray, List.set_cons_zero, List.set_cons_succ]
      refine wpAnyH_take (i := 3) (v := ?_) rfl (by kernel_rfl) (by kernel_rfl) (by kernel_rfl) (fun _ _ _ h => h) (Or.inl ⟨by rfl, ?_⟩) (by assumption) ?_
      rotate_left
      · intro Wq hSw
        clear hSw
        go_simp
        all_goals (with_reducible rfl)
      try simp only [Act.put, List.getElem_toArray, List.getElem_cons_succ, List.getElem_cons_zero, List.setIfInBounds_toArray, List.set_cons_zero, List.set_cons_succ]
      refine wpAnyH_take (i := 4) (v := ?_) rfl (by kernel_rfl) (by kernel_rfl) (by kernel_rfl) (fun _ _ _ h => h) (Or.inl ⟨by rfl, ?_⟩) (by assumption) ?_
      rotate_left
      · intro Wq hSw
        clear hSw
        go_simp
        all_goals (with_reducible rfl)
      try simp only [Act.put, List.getElem_toArray, List.getElem_cons_succ, List.getElem_cons_zero, List.setIfInBounds_toArray, List.set_cons_zero, List.set_cons_succ]
      refine wpAnyH_take (i := 5) (v := ?_) rfl (by kernel_rfl) (by kernel_rfl) (by kernel_rfl) (fun _ _ _ h => h) (Or.inl ⟨by rfl, ?_⟩) (by assumption) ?_
      rotate_left
      · intro Wq hSw
        have k0 := (hSw.cell (cell_lt HK0.out)).trans HK0.out
        have k1 := (hSw.cell (cell_lt HK1.out)).trans HK1.out
        clear hSw
        go_simp
        all_goals (with_reducible rfl)
      try simp only [Act.put, List.getElem_toArray, List.getElem_cons_succ, List.getElem_cons_zero, List.setIfInBounds_toArray, List.set_cons_zero, List.set_cons_succ]
      have hB1 := hHeld
      refine r2 (i := 6) (j := 7) rfl (fun K hK => ?_) rfl (fun K hK => ?_)
      · go_simp
        refine hK.out _ _ (bl_alloc hHeld _) (fun hHeld2 => ?_)
        clear hK K hHeld
        have hHeld := hHeld2
        clear hHeld2
        try simp only [Act.put, List.getElem_toArray, List.getElem_cons_succ, List.getElem_cons_zero, List.setIfInBounds_toArray, List.set_cons_zero, List.set_cons_succ]
        refine r1 (i := 7) rfl (fun K hK => ?_)
        go_simp
        refine hK.out _ _ (bl_alloc hHeld _) (fun hHeld2 => ?_)
        clear hK K hHeld
        have hHeld := hHeld2
        clear hHeld2
        try simp only [Act.put, List.getElem_toArray, List.getElem_cons_succ, List.getElem_cons_zero, List.setIfInBounds_toArray, List.set_cons_zero, List.set_cons_succ]
        have Hfst := Lib.hid ((var2_new W1 (.int .i64 0) (.int .i64 0) 28 W1.heap.size rfl).below (bl_one _ (.cells #[.int .i64 0, .int .i64 0] 28)))
        have Hsnd := Lib.hid (var2_new (W1.alloc (.cells #[.int .i64 0, .int .i64 0] 28)) (.int .i64 0) (.int .i64 0) 28 (W1.heap.size + 1) (by simp))
        generalize (W1.alloc (.cells #[.int .i64 0, .int .i64 0] 28)).alloc (.cells #[.int .i64 0, .int .i64 0] 28) = W2 at *
        have hs1 := hB1.size
        have hne : W1.heap.size ≠ W1.heap.size + 1 := by omega
        have hne' : W1.heap.size + 1 ≠ W1.heap.size := by omega
        have hs2 : W0.heap.size ≤ W1.heap.size + 1 := by omega
        generalize W1.heap.size + 1 = gs at *
        generalize W1.heap.size = gf at *
        have Hg5 := Hfst
        have Hg6 := Hsnd
        clear Hfst Hsnd
        have hg5 := hs1
        have hg6 := hs2
        have hneg6 := hne
        have hneg5 := hne'
        clear hne hne'
        refine r1 (i := 8) rfl (fun K hK => ?_)
        obtain ⟨c0, c1⟩ := Hg5.out.two
        obtain ⟨f0, f1⟩ := Hg5.out.free2
        go_simp
        clear c0 c1 f0 f1
        refine hK.out _ _ (bl_set (bl_set hHeld hg5 _) hg5 _) (fun hHeld2 => ?_)
        replace Hg6 := Lib.hid ((Hg6.out.far (p := ⟨gf, 0, none⟩) hneg6 (.int .i64 p0.x)).far (p := ⟨gf, 1, none⟩) hneg6 (.int .i64 p0.y))
        replace Hg5 := Lib.hid (Hg5.out.set2 (.int .i64 p0.x) (.int .i64 p0.y))
        clear hK K hHeld
        have hHeld := hHeld2
        clear hHeld2
        try simp only [Act.put, List.getElem_toArray, List.getElem_cons_succ, List.getElem_cons_zero, List.setIfInBounds_toArray, List.set_cons_zero, List.set_cons_succ]
        refine r1 (i := 9) rfl (fun K hK => ?_)
        obtain ⟨c0, c1⟩ := Hg6.out.two
        obtain ⟨f0, f1⟩ := Hg6.out.free2
        go_simp
        clear c0 c1 f0 f1
        refine hK.out _ _ (bl_set (bl_set hHeld hg6 _) hg6 _) (fun hHeld2 => ?_)
        replace Hg5 := Lib.hid ((Hg5.out.far (p := ⟨gs, 0, none⟩) hneg5 (.int .i64 p0.x)).far (p := ⟨gs, 1, none⟩) hneg5 (.int .i64 p0.y))
        replace Hg6 := Lib.hid (Hg6.out.set2 (.int .i64 p0.x) (.int .i64 p0.y))
        clear hK K hHeld
        have hHeld := hHeld2
        clear hHeld2
        try simp only [Act.put, List.getElem_toArray, List.getElem_cons_succ, List.getElem_cons_zero, List.setIfInBounds_toArray, List.set_cons_zero, List.set_cons_succ]
        refine wpAnyH_done (by kernel_rfl) ?_ _
        go_wp2_with fail
        go_meet
        case rel => exact ⟨_, _, rfl, rfl, hneg6, hg5, hg6, Hg5.out, Hg6.out, hHeld⟩
      · go_simp
        refine hK.out _ _ (bl_alloc hHeld _) (fun hHeld2 => ?_)
        clear hK K hHeld
        have hHeld := hHeld2
        clear hHeld2
        try simp only [Act.put, List.getElem_toArray, List.getElem_cons_succ, List.getElem_cons_zero, List.setIfInBounds_toArray, List.set_cons_zero, List.set_cons_succ]
        refine r1 (i := 6) rfl (fun K hK => ?_)
        go_simp
        refine hK.out _ _ (bl_alloc hHeld _) (fun hHeld2 => ?_)
        clear hK K hHeld
        have hHeld := hHeld2
        clear hHeld2
        try simp only [Act.put, List.getElem_toArray, List.getElem_cons_succ, List.getElem_cons_zero, List.setIfInBounds_toArray, List.set_cons_zero, List.set_cons_succ]
        have Hfst := Lib.hid ((var2_new W1 (.int .i64 0) (.int .i64 0) 28 W1.heap.size rfl).below (bl_one _ (.cells #[.int .i64 0, .int .i64 0] 28)))
        have Hsnd := Lib.hid (var2_new (W1.alloc (.cells #[.int .i64 0, .int .i64 0] 28)) (.int .i64 0) (.int .i64 0) 28 (W1.heap.size + 1) (by simp))
        generalize (W1.alloc (.cells #[.int .i64 0, .int .i64 0] 28)).alloc (.cells #[.int .i64 0, .int .i64 0] 28) = W2 at *
        have hs1 := hB1.size
        have hne : W1.heap.size ≠ W1.heap.size + 1 := by omega
        have hne' : W1.heap.size + 1 ≠ W1.heap.size := by omega
        have hs2 : W0.heap.size ≤ W1.heap.size + 1 := by omega
        generalize W1.heap.size + 1 = gs at *
        generalize W1.heap.size = gf at *
        have Hg6 := Hfst
        have Hg5 := Hsnd
        clear Hfst Hsnd
        have hg6 := hs1
        have hg5 := hs2
        have hneg5 := hne
        have hneg6 := hne'
        clear hne hne'
        refine r1 (i := 8) rfl (fun K hK => ?_)
        obtain ⟨c0, c1⟩ := Hg5.out.two
        obtain ⟨f0, f1⟩ := Hg5.out.free2
        go_simp
        clear c0 c1 f0 f1
        refine hK.out _ _ (bl_set (bl_set hHeld hg5 _) hg5 _) (fun hHeld2 => ?_)
        replace Hg6 := Lib.hid ((Hg6.out.far (p := ⟨gs, 0, none⟩) hneg6 (.int .i64 p0.x)).far (p := ⟨gs, 1, none⟩) hneg6 (.int .i64 p0.y))
        replace Hg5 := Lib.hid (Hg5.out.set2 (.int .i64 p0.x) (.int .i64 p0.y))
        clear hK K hHeld
        have hHeld := hHeld2
        clear hHeld2
        try simp only [Act.put, List.getElem_toArray, List.getElem_cons_succ, List.getElem_cons_zero, List.setIfInBounds_toArray, List.set_cons_zero, List.set_cons_succ]
        refine r1 (i := 9) rfl (fun K hK => ?_)
        obtain ⟨c0, c1⟩ := Hg6.out.two
        obtain ⟨f0, f1⟩ := Hg6.out.free2
        go_simp
        clear c0 c1 f0 f1
        refine hK.out _ _ (bl_set (bl_set hHeld hg6 _) hg6 _) (fun hHeld2 => ?_)
        replace Hg5 := Lib.hid ((Hg5.out.far (p := ⟨gf, 0, none⟩) hneg5 (.int .i64 p0.x)).far (p := ⟨gf, 1, none⟩) hneg5 (.int .i64 p0.y))
        replace Hg6 := Lib.hid (Hg6.out.set2 (.int .i64 p0.x) (.int .i64 p0.y))
        clear hK K hHeld
        have hHeld := hHeld2
        clear hHeld2
        try simp only [Act.put, List.getElem_toArray, List.getElem_cons_succ, List.getElem_cons_zero, List.setIfInBounds_toArray, List.set_cons_zero, List.set_cons_succ]
        refine wpAnyH_done (by kernel_rfl) ?_ _
        go_wp2_with fail
        go_meet
        case rel => exact ⟨_, _, rfl, rfl, hneg6, hg5, hg6, Hg5.out, Hg6.out, hHeld⟩
    case rest =>
    obtain ⟨g5, g6, rfl, rfl, hne, h5, h6, hv5, hv6, hB⟩ := hcut
    have HV5 := Lib.hid hv5
    have HV6 := Lib.hid hv6
    have HB := Lib.hid hB
    have HT := Lib.hid (show BoxTo p (max 0 1) (pget p 0) (pget p 0) from box_one p)
    rw [hp0] at HT
    clear hv5 hv6 hB k0 k1 hgl hp0
    go_wp2_with fail
    go_loopw [22] (fun mv W => ∃ (m : Nat) (lo hi : Pt), m ≤ p.length ∧ mv = .int .i64 m ∧ BoxTo p (max m 1) lo hi ∧ Var W g5 [.int .i64 lo.x, .int .i64 lo.y] ∧ Var W g6 [.int .i64 hi.x, .int .i64 hi.y] ∧ Below W0.heap.size W0 W) (fun mv _ => p.length - (intOf mv).toNat)
    case atStart => exact ⟨0, p0, p0, Nat.zero_le _, rfl, HT.out, HV5.out, HV6.out, HB.out⟩
    case round =>
      obtain ⟨m, lo, hi, hm, rfl, hT, hv5, hv6, hB⟩ := hrel
      clear HV5 HV6 HB HT
      have HV5 := Lib.hid hv5
      have HV6 := Lib.hid hv6
      have HB := Lib.hid hB
      have HT := Lib.hid hT
      have HP1 := Lib.hid (HP.out.below hB)
      clear hv5 hv6 hB hT
      by_cases hlt : m < p.length
      · obtain ⟨k0, k1⟩ := ptRow_at HP1.out hlt (t := pget p m) rfl
        have b3 : ((m : Int) < (p.length : Int)) = True := eq_true (by omega)
        have c3 : ((0 : Int) ≤ (m : Int)) = True := eq_true (by omega)
        have d3 : (m < p.length) = True := eq_true hlt
        have HN := Lib.hid (fun lo' hi' => @box_next p m lo hi lo' hi')
        generalize pget p m = q at *
        go_upto_region 7 with (fail)
        clear k0 k1
        have n5 : wr.heap.size ≠ g5 := by have := HV5.out.lt; omega
        have n6 : wr.heap.size ≠ g6 := by have := HV6.out.lt; omega
        have HV8 := Lib.hid (var2_new wr (.int .i64 q.x) (.int .i64 q.y) 28 wr.heap.size rfl)
        replace HV5 := Lib.hid (HV5.out.below (bl_one wr (.cells #[.int .i64 q.x, .int .i64 q.y] 28)))
        replace HV6 := Lib.hid (HV6.out.below (bl_one wr (.cells #[.int .i64 q.x, .int .i64 q.y] 28)))
        replace HB := Lib.hid (bl_alloc HB.out (.cells #[.int .i64 q.x, .int .i64 q.y] 28))
        generalize wr.alloc (.cells #[.int .i64 q.x, .int .i64 q.y] 28) = W7 at *
        generalize wr.heap.size = g8 at *
        obtain ⟨e0, e1⟩ := HV5.out.two
        obtain ⟨f0, f1⟩ := HV5.out.free2
        obtain ⟨k0, k1⟩ := HV8.out.two
        generalize hx1 : min lo.x q.x = x1 at *
        generalize hy1 : min lo.y q.y = y1 at *
        go_upto_region 8 with (fail)
        clear e0 e1 f0 f1 k0 k1
        have n8 : g5 ≠ g8 := n5.symm
        have n9 : g6 ≠ g8 := n6.symm
        have ne' : g6 ≠ g5 := fun h => hne h.symm
        replace HV6 := Lib.hid ((HV6.out.far (p := ⟨g5, 0, none⟩) hne (.int .i64 x1)).far (p := ⟨g5, 1, none⟩) hne (.int .i64 y1))
        replace HV8 := Lib.hid ((HV8.out.far (p := ⟨g5, 0, none⟩) n8 (.int .i64 x1)).far (p := ⟨g5, 1, none⟩) n8 (.int .i64 y1))
        replace HB := Lib.hid (bl_set (bl_set HB.out (p := ⟨g5, 0, none⟩) h5 (.int .i64 x1)) (p := ⟨g5, 1, none⟩) h5 (.int .i64 y1))
        replace HV5 := Lib.hid (HV5.out.set2 (.int .i64 x1) (.int .i64 y1))
        generalize (W7.setCell ⟨g5, 0, none⟩ (.int .i64 x1)).setCell ⟨g5, 1, none⟩ (.int .i64 y1) = W8 at *
        obtain ⟨e0, e1⟩ := HV6.out.two
        obtain ⟨f0, f1⟩ := HV6.out.free2
        obtain ⟨k0, k1⟩ := HV8.out.two
        generalize hx2 : max hi.x q.x = x2 at *
        generalize hy2 : max hi.y q.y = y2 at *
        go_upto_region 9 with (fail)
        clear e0 e1 f0 f1 k0 k1
        replace HV5 := Lib.hid ((HV5.out.far (p := ⟨g6, 0, none⟩) ne' (.int .i64 x2)).far (p := ⟨g6, 1, none⟩) ne' (.int .i64 y2))
        replace HB := Lib.hid (bl_set (bl_set HB.out (p := ⟨g6, 0, none⟩) h6 (.int .i64 x2)) (p := ⟨g6, 1, none⟩) h6 (.int .i64 y2))
        replace HV6 := Lib.hid (HV6.out.set2 (.int .i64 x2) (.int .i64 y2))
        generalize (W8.setCell ⟨g6, 0, none⟩ (.int .i64 x2)).setCell ⟨g6, 1, none⟩ (.int .i64 y2) = W9 at *
        obtain ⟨m1, m2, m3, m4⟩ := wnum (i := m) (by omega)
        go_wp2_with fail
        clear m1 m2 m3 m4
        exact ⟨⟨m + 1, ⟨x1, y1⟩, ⟨x2, y2⟩, hlt, by rw [Int.natCast_add]; rfl, HN.out ⟨x1, y1⟩ ⟨x2, y2⟩ HT.out rfl rfl rfl rfl, HV5.out, HV6.out, HB.out⟩, by simp [intOf]; omega⟩
      · obtain rfl : m = p.length := by omega
        have b3 : ((p.length : Int) < (p.length : Int)) = False := eq_false (by omega)
        have hT := HT.out
        rw [show max p.length 1 = p.length by omega] at hT
        replace HT := Lib.hid hT
        clear hT
        have v2 := HV2.out.below HB.out
        have v3 := HV3.out.below HB.out
        have hg2 : w.heap.size ≤ w.heap.size := Nat.le_refl _
        have hg3 : w.heap.size ≤ w.heap.size + 1 := Nat.le_succ _
        have hg5 : w.heap.size + 2 ≤ g5 := by omega
        have hg6 : w.heap.size + 2 ≤ g6 := by omega
        have HBw := Lib.hid (bl_trans HG.out.hb HB.out)
        have HV2' := Lib.hid v2
        have HV3' := Lib.hid v3
        clear v2 v3 HV2 HV3 HB HP HP1 G0 HG
        go_upto_region 10 with (fail)
        generalize hgA : w.heap.size = ga at *
        generalize hgB : ga + 1 = gb at *
        have q5 : ga ≠ g5 := by omega
        have q6 : ga ≠ g6 := by omega
        have r5 : gb ≠ g5 := by omega
        have r6 : gb ≠ g6 := by omega
        have qb : ga ≠ gb := by omega
        have bq : gb ≠ ga := by omega
        have lga : ga ≤ ga := Nat.le_refl _
        have lgb : ga ≤ gb := by omega
        refine wp_region_held_drew (S := fun V => Var V g5 [.int .i64 lo.x, .int .i64 lo.y] ∧ Var V g6 [.int .i64 hi.x, .int .i64 hi.y] ∧ Below ga w V) (by kernel_rfl) ?_ (fun hHeld => ?_)
        · exact ⟨HV5.out.below (bel_drew _), HV6.out.below (bel_drew _), HBw.out.drew⟩
        replace HV2' := Lib.hid (HV2'.out.below (bel_drew _))
        replace HV3' := Lib.hid (HV3'.out.below (bel_drew _))
        revert HV2'
        revert HV3'
        revert hHeld
        generalize World.drew _ = W1
        intro hHeld HV3' HV2'
        refine wpAnyH_take (i := 0) (v := ?_) rfl (by kernel_rfl) (by kernel_rfl) (by kernel_rfl) (fun _ _ _ h => h) (Or.inl ⟨by rfl, ?_⟩) (by assumption) ?_
        rotate_left
        · intro Wq hSw
          obtain ⟨k0, k1⟩ := Var.two (hSw.1)
          clear hSw
          go_simp
          all_goals (with_reducible rfl)
        try simp only [Act.put, List.getElem_toArray, List.getElem_cons_zero, List.setIfInBounds_toArray, List.set_cons_zero, List.set_cons_succ]
        refine wpAnyH_take (i := 1) (v := ?_) rfl (by kernel_rfl) (by kernel_rfl) (by kernel_rfl) (fun _ _ _ h => h) (Or.inl ⟨by rfl, ?_⟩) (by assumption) ?_
        rotate_left
        · intro Wq hSw
          obtain ⟨k0, k1⟩ := Var.two (hSw.2.1)
          clear hSw
          go_simp
          all_goals (with_reducible rfl)
        try simp only [Act.put, List.getElem_toArray, List.getElem_cons_succ, List.getElem_cons_zero, List.setIfInBounds_toArray, List.set_cons_zero, List.set_cons_succ]
        refine r1 (i := 2) rfl (fun K hK => ?_)
        obtain ⟨c0, c1⟩ := HV2'.out.two
        obtain ⟨f0, f1⟩ := HV2'.out.free2
        go_simp
        clear c0 c1 f0 f1
        refine hK.out _ _ ⟨((id hHeld).1.far (p := ⟨ga, 0, none⟩) q5 _).far (p := ⟨ga, 1, none⟩) q5 _, ((id hHeld).2.1.far (p := ⟨ga, 0, none⟩) q6 _).far (p := ⟨ga, 1, none⟩) q6 _, ((id hHeld).2.2.setCell (p := ⟨ga, 0, none⟩) lga _).setCell (p := ⟨ga, 1, none⟩) lga _⟩ (fun hHeld2 => ?_)
        replace HV3' := Lib.hid ((HV3'.out.far (p := ⟨ga, 0, none⟩) qb (.int .i64 lo.x)).far (p := ⟨ga, 1, none⟩) qb (.int .i64 lo.y))
        replace HV2' := Lib.hid (HV2'.out.set2 (.int .i64 lo.x) (.int .i64 lo.y))
        clear hK K hHeld
        have hHeld := hHeld2
        clear hHeld2
        try simp only [Act.put, List.getElem_toArray, List.getElem_cons_succ, List.getElem_cons_zero, List.setIfInBounds_toArray, List.set_cons_zero, List.set_cons_succ]
        refine r1 (i := 3) rfl (fun K hK => ?_)
        obtain ⟨c0, c1⟩ := HV3'.out.two
        obtain ⟨f0, f1⟩ := HV3'.out.free2
        go_simp
        clear c0 c1 f0 f1
        refine hK.out _ _ ⟨((id hHeld).1.far (p := ⟨gb, 0, none⟩) r5 _).far (p := ⟨gb, 1, none⟩) r5 _, ((id hHeld).2.1.far (p := ⟨gb, 0, none⟩) r6 _).far (p := ⟨gb, 1, none⟩) r6 _, ((id hHeld).2.2.setCell (p := ⟨gb, 0, none⟩) lgb _).setCell (p := ⟨gb, 1, none⟩) lgb _⟩ (fun hHeld2 => ?_)
        replace HV2' := Lib.hid ((HV2'.out.far (p := ⟨gb, 0, none⟩) bq (.int .i64 hi.x)).far (p := ⟨gb, 1, none⟩) bq (.int .i64 hi.y))
        replace HV3' := Lib.hid (HV3'.out.set2 (.int .i64 hi.x) (.int .i64 hi.y))
        clear hK K hHeld
        have hHeld := hHeld2
        clear hHeld2
        try simp only [Act.put, List.getElem_toArray, List.getElem_cons_succ, List.getElem_cons_zero, List.setIfInBounds_toArray, List.set_cons_zero, List.set_cons_succ]
        refine wpAnyH_take (i := 4) (v := ?_) rfl (by kernel_rfl) (by kernel_rfl) (by kernel_rfl) (fun _ _ _ h => h) (Or.inl ⟨by rfl, ?_⟩) (by assumption) ?_
        rotate_left
        · intro Wq hSw
          clear hSw
          go_simp
          all_goals (with_reducible rfl)
        try simp only [Act.put, List.getElem_toArray, List.getElem_cons_succ, List.getElem_cons_zero, List.setIfInBounds_toArray, List.set_cons_zero, List.set_cons_succ]
        refine wpAnyH_done (by kernel_rfl) ?_ _
        go_wp2_with fail
        (try simp only [Exit.inBlock, Exit.then])
        refine bodyPost_ret (results_cct rfl rfl rfl (load_pt HV2'.out) (load_pt HV3'.out)) rfl ?_
        exact ⟨lo, hi, true, rfl, .inr ⟨rfl, h0, HT.out⟩, by rw [hgA]; exact (id hHeld).2.2⟩
end Go.Proofs.Ytmkegehkifpkjaa
