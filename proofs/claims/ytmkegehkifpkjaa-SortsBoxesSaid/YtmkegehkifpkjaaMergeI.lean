/-
  Contract of sorts.Merge[int].
-/
import Derived.Test.YtmkegehkifpkjaaSMem
namespace Go.Proofs.Ytmkegehkifpkjaa
open Go.RowKit

/-- the function value that is asked: of members it answers lt, and changes nothing that was there -/
def AsksI (f : FuncId) (caps : Array Value) (lt : Int → Int → Bool) (Pm : Int → Prop) (w : World) : Prop :=
  ∀ x y W, Pm x → Pm y → Below w.heap.size w W → Calls Try.prog f (#[.int .i64 x, .int .i64 y] ++ caps) W (Gives (.bool (lt x y)) W)
theorem AsksI.below {f : FuncId} {caps : Array Value} {lt : Int → Int → Bool} {Pm : Int → Prop} {w w' : World} (h : AsksI f caps lt Pm w) (hb : Below w.heap.size w w') : AsksI f caps lt Pm w' :=
  fun x y W hx hy hW => h x y W hx hy (bl_trans hb hW)
set_option maxHeartbeats 8000000 in
set_option maxRecDepth 100000 in
theorem mergeI_l (f : FuncId) (caps : Array Value) (lt : Int → Int → Bool) (Pm : Int → Prop) (A B : List Int) (ada adb : Option Addr) (capa capb : Nat) (w : World) (hcf : ∀ args w, (callFunc f args).run Try.prog w = .ok (.enter f args) w)
    (HL : AsksI f caps lt Pm w) (hPA : ∀ x ∈ A, Pm x) (hPB : ∀ x ∈ B, Pm x) (hA : IntRow w ada A) (hB : IntRow w adb B) (hca : A.length ≤ capa) (hcb : B.length ≤ capb) (hna : ada = none → capa = 0) (hnb : adb = none → capb = 0) (hlen : A.length + B.length ≤ 10000) :
    Calls Try.prog 22 #[.slice ada A.length capa, .slice adb B.length capb, .func (.func f) #[] caps] w fun e w' => ∃ v, e = .returned v ∧ Oi w v (mrgW lt A B) w' := by
  obtain ⟨e0, hi0, hz0, hz1, hz2⟩ := info_parts info_int
  have HLL := Lib.hid HL
  have HPA := Lib.hid hPA
  have HPB := Lib.hid hPB
  have HA0 := Lib.hid hA
  have HB0 := Lib.hid hB
  have HNA := Lib.hid hna
  have HNB := Lib.hid hnb
  clear HL hPA hPB hA hB hna hnb
  have wl : wrap64 ((A.length : Int) + (B.length : Int)) = ((A.length + B.length : Nat) : Int) := by unfold wrap64; omega
  have wl2 : IntKind.i64.wrap ((A.length : Int) + (B.length : Int)) = ((A.length + B.length : Nat) : Int) := (IntWalk.i64_in _ (by omega)).trans (by omega)
  go_enter Try.func22, Try.ntmps22
  go_wp2_with (at_make; refine wpList_make_own _ rfl _ _ 24 rfl w.heap.size 3 e0 (.int .i64 0) 1 Try.underlying24 hi0 hz0 hz1 _ _ _ (A.length + B.length) rfl rfl (by first | rfl | omega) ?b2 ?b3 (Nat.le_refl _) ?_)
  case b2 => rw [hz2]; omega
  case b3 => unfold maxLen; omega
  intro w0 hown0 hgrow0
  have HO0 : Hid (Oi w (.slice (some ⟨w.heap.size, 0, none⟩) 0 (A.length + B.length)) [] w0) := ⟨hown0, (Below.refl _ _).grown hgrow0 (Nat.le_refl _) (fun k h => by cases h), hgrow0.size⟩
  clear hown0 hgrow0 wl wl2
  go_wp2_with fail
  go_loopw [0, 1, 7] (fun va vb out wr => ∃ (D A' B' : List Int) (ad1 : Option Addr) (c1 : Nat) (ad2 : Option Addr) (c2 : Nat), va = .slice ad1 A'.length c1 ∧ vb = .slice ad2 B'.length c2 ∧ A'.length ≤ c1 ∧ B'.length ≤ c2 ∧ (ad1 = none → c1 = 0) ∧ (ad2 = none → c2 = 0) ∧
      IntRow w ad1 A' ∧ IntRow w ad2 B' ∧ (∀ x ∈ A', Pm x) ∧ (∀ x ∈ B', Pm x) ∧ D ++ mrgW lt A' B' = mrgW lt A B ∧ D.length + A'.length + B'.length = A.length + B.length ∧ Oi w out D wr) (fun va vb _ _ => vlen va + vlen vb)
  case atStart => exact ⟨[], A, B, _, _, _, _, rfl, rfl, hca, hcb, HNA.out, HNB.out, HA0.out, HB0.out, HPA.out, HPB.out, rfl, by simp, HO0.out⟩
  case round =>
    obtain ⟨D, A', B', ad1, c1, ad2, c2, rfl, rfl, hc1, hc2, hn1, hn2, hA1, hB1, hP1, hP2, hD, hl, hO⟩ := hrel
    have HO := Lib.hid hO
    have hnx := hO.hb
    have HPA' := Lib.hid hP1
    have HPB' := Lib.hid hP2
    have HD := Lib.hid hD
    have HA := Lib.hid hA1
    have HB := Lib.hid hB1
    have HN1' := Lib.hid hn1
    have HN2' := Lib.hid hn2
    clear hO hP1 hP2 hD hA1 hB1 hn1 hn2 HA0 HB0 HPA HPB HNA HNB HO0
    rcases A' with _ | ⟨x, xs⟩
    · go_wp2_with (at_builtin; refine app_ints rfl _ _ rfl rfl HO.out rfl (L := []) rfl (intRow_nil _ _) HN1'.out ?x1 ?_)
      case x1 => simp at hl ⊢; omega
      intro v1 w1 hO1
      have HO1 := Lib.hid hO1
      clear hO1 HO
      go_wp2_with (at_builtin; refine app_ints rfl _ _ rfl rfl HO1.out rfl (L := B') rfl (HB.out.below HO1.out.hb) HN2'.out ?x2 ?_)
      case x2 => simp at hl ⊢; omega
      intro v2 w2 hO2
      have HO2 := Lib.hid hO2
      clear hO2
      go_wp2_with fail
      go_ret
      have e : D ++ B' = mrgW lt A B := by rw [← HD.out, mrgW_nil]
      exact ⟨_, rfl, (e ▸ HO2.out : _)⟩
    · rcases B' with _ | ⟨y, ys⟩
      · go_wp2_with (at_builtin; refine app_ints rfl _ _ rfl rfl HO.out rfl (L := x :: xs) rfl (HA.out.below HO.out.hb) HN1'.out ?x1 ?_)
        case x1 => simp at hl ⊢; omega
        intro v1 w1 hO1
        have HO1 := Lib.hid hO1
        clear hO1 HO
        go_wp2_with (at_builtin; refine app_ints rfl _ _ rfl rfl HO1.out rfl (L := []) rfl (intRow_nil _ _) HN2'.out ?x2 ?_)
        case x2 => simp at hl ⊢; omega
        intro v2 w2 hO2
        have HO2 := Lib.hid hO2
        clear hO2
        go_wp2_with fail
        go_ret
        have e : D ++ x :: xs = mrgW lt A B := by rw [← HD.out, mrgW_nil2]
        exact ⟨_, rfl, (e ▸ HO2.out : _)⟩
      · have HCF := Lib.hid hcf
        obtain ⟨g1, o1, rfl⟩ := HA.out.some (Nat.succ_pos _)
        obtain ⟨g2, o2, rfl⟩ := HB.out.some (Nat.succ_pos _)
        have hx := HPA'.out x (List.mem_cons_self ..)
        have hy := HPB'.out y (List.mem_cons_self ..)
        have HLC := Lib.hid (fun W h => HLL.out y x W hy hx h)
        have p1 : ((0 : Int) < (((x :: xs).length : Nat) : Int)) = True := by simp
        have p2 : ((0 : Int) < (((y :: ys).length : Nat) : Int)) = True := by simp
        have HNE : Hid (∀ W, (binOp .neq 37 (.func (.func f) #[] caps) Value.nilFunc).run Try.prog W = .ok (.bool true) W) := by intro W; rfl
        cases hlt : lt y x with
        | true =>
          rw [hlt] at HLC
          go_wp2_with fail
          refine wp_region_held_drew (S := fun W => Below w.heap.size w W) (by kernel_rfl) ?_ (fun hHeld => ?_)
          · exact hnx.drew
          have HO1 := Lib.hid HO.out.drew
          clear HO
          revert HO1
          revert hHeld
          generalize World.drew _ = W1
          intro hHeld HO1
          refine wpAnyH_take (i := 0) (v := ?_) rfl (by kernel_rfl) (by kernel_rfl) (by kernel_rfl) (fun _ _ _ h => h) (Or.inl ⟨by rfl, ?_⟩) (by assumption) ?_
          rotate_left
          · intro Wq hSw
            clear hSw
            go_simp
            all_goals (with_reducible rfl)
          try simp only [Act.put, List.getElem_toArray, List.getElem_cons_zero, List.setIfInBounds_toArray, List.set_cons_zero, List.set_cons_succ]
          refine wpAnyH_take (i := 1) (v := ?_) rfl (by kernel_rfl) (by kernel_rfl) (by kernel_rfl) (fun _ _ _ h => h) (Or.inl ⟨by rfl, ?_⟩) (by assumption) ?_
          rotate_left
          · intro Wq hSw
            have hne := HNE.out Wq
            clear hSw
            go_simp
            all_goals (with_reducible rfl)
          try simp only [Act.put, List.getElem_toArray, List.getElem_cons_succ, List.getElem_cons_zero, List.setIfInBounds_toArray, List.set_cons_zero, List.set_cons_succ]
          refine wpAnyH_take (i := 2) (v := ?_) rfl (by kernel_rfl) (by kernel_rfl) (by kernel_rfl) (fun _ _ _ h => h) (Or.inl ⟨by rfl, ?_⟩) (by assumption) ?_
          rotate_left
          · intro Wq hSw
            clear hSw
            go_simp
            all_goals (with_reducible rfl)
          try simp only [Act.put, List.getElem_toArray, List.getElem_cons_succ, List.getElem_cons_zero, List.setIfInBounds_toArray, List.set_cons_zero, List.set_cons_succ]
          refine wpAnyH_take (i := 3) (v := ?_) rfl (by kernel_rfl) (by kernel_rfl) (by kernel_rfl) (fun _ _ _ h => h) (Or.inl ⟨by rfl, ?_⟩) (by assumption) ?_
          rotate_left
          · intro Wq hSw
            clear hSw
            go_simp
            all_goals (with_reducible rfl)
          try simp only [Act.put, List.getElem_toArray, List.getElem_cons_succ, List.getElem_cons_zero, List.setIfInBounds_toArray, List.set_cons_zero, List.set_cons_succ]
          refine wpAnyH_take (i := 4) (v := ?_) rfl (by kernel_rfl) (by kernel_rfl) (by kernel_rfl) (fun _ _ _ h => h) (Or.inl ⟨by rfl, ?_⟩) (by assumption) ?_
          rotate_left
          · intro Wq hSw
            clear hSw
            go_simp
            all_goals (with_reducible rfl)
          try simp only [Act.put, List.getElem_toArray, List.getElem_cons_succ, List.getElem_cons_zero, List.setIfInBounds_toArray, List.set_cons_zero, List.set_cons_succ]
          refine wpAnyH_take (i := 5) (v := ?_) rfl (by kernel_rfl) (by kernel_rfl) (by kernel_rfl) (fun _ _ _ h => h) (Or.inl ⟨by rfl, ?_⟩) (by assumption) ?_
          rotate_left
          · intro Wq hSw
            clear hSw
            go_simp
            all_goals (with_reducible rfl)
          try simp only [Act.put, List.getElem_toArray, List.getElem_cons_succ, List.getElem_cons_zero, List.setIfInBounds_toArray, List.set_cons_zero, List.set_cons_succ]
          refine wpAnyH_take (i := 6) (v := ?_) rfl (by kernel_rfl) (by kernel_rfl) (by kernel_rfl) (fun _ _ _ h => h) (Or.inl ⟨by rfl, ?_⟩) (by assumption) ?_
          rotate_left
          · intro Wq hSw
            have k0 := intRow_at (HB.out.below hSw) (i := 0) (Nat.succ_pos _) rfl
            simp only [Nat.add_zero, List.getElem_cons_zero] at k0
            clear hSw
            go_simp
            all_goals (with_reducible rfl)
          try simp only [Act.put, List.getElem_toArray, List.getElem_cons_succ, List.getElem_cons_zero, List.setIfInBounds_toArray, List.set_cons_zero, List.set_cons_succ]
          refine wpAnyH_take (i := 7) (v := ?_) rfl (by kernel_rfl) (by kernel_rfl) (by kernel_rfl) (fun _ _ _ h => h) (Or.inl ⟨by rfl, ?_⟩) (by assumption) ?_
          rotate_left
          · intro Wq hSw
            clear hSw
            go_simp
            all_goals (with_reducible rfl)
          try simp only [Act.put, List.getElem_toArray, List.getElem_cons_succ, List.getElem_cons_zero, List.setIfInBounds_toArray, List.set_cons_zero, List.set_cons_succ]
          refine wpAnyH_take (i := 8) (v := ?_) rfl (by kernel_rfl) (by kernel_rfl) (by kernel_rfl) (fun _ _ _ h => h) (Or.inl ⟨by rfl, ?_⟩) (by assumption) ?_
          rotate_left
          · intro Wq hSw
            clear hSw
            go_simp
            all_goals (with_reducible rfl)
          try simp only [Act.put, List.getElem_toArray, List.getElem_cons_succ, List.getElem_cons_zero, List.setIfInBounds_toArray, List.set_cons_zero, List.set_cons_succ]
          refine wpAnyH_take (i := 9) (v := ?_) rfl (by kernel_rfl) (by kernel_rfl) (by kernel_rfl) (fun _ _ _ h => h) (Or.inl ⟨by rfl, ?_⟩) (by assumption) ?_
          rotate_left
          · intro Wq hSw
            have k0 := intRow_at (HA.out.below hSw) (i := 0) (Nat.succ_pos _) rfl
            simp only [Nat.add_zero, List.getElem_cons_zero] at k0
            clear hSw
            go_simp
            all_goals (with_reducible rfl)
          try simp only [Act.put, List.getElem_toArray, List.getElem_cons_succ, List.getElem_cons_zero, List.setIfInBounds_toArray, List.set_cons_zero, List.set_cons_succ]
          refine r1 (i := 10) rfl (fun K hK => ?_)
          go_simp
          with_reducible refine (HLC.out _ hHeld).mono ?_
          rintro e w1 ⟨rfl, hb1⟩
          go_wp2_with fail
          refine hK.out _ _ (bl_trans hHeld hb1) (fun hHeld2 => ?_)
          replace HO1 := Lib.hid (HO1.out.below hb1)
          clear hK K hHeld
          have hHeld := hHeld2
          clear hHeld2
          try simp only [Act.put, List.getElem_toArray, List.getElem_cons_succ, List.getElem_cons_zero, List.setIfInBounds_toArray, List.set_cons_zero, List.set_cons_succ]
          refine wpAnyH_take (i := 11) (v := ?_) rfl (by kernel_rfl) (by kernel_rfl) (by kernel_rfl) (fun _ _ _ h => h) (Or.inl ⟨by rfl, ?_⟩) (by assumption) ?_
          rotate_left
          · intro Wq hSw
            clear hSw
            go_simp
            all_goals (with_reducible rfl)
          try simp only [Act.put, List.getElem_toArray, List.getElem_cons_succ, List.getElem_cons_zero, List.setIfInBounds_toArray, List.set_cons_zero, List.set_cons_succ]
          refine wpAnyH_done (by kernel_rfl) ?_ _
          have HN1 := hHeld
          clear hHeld
          go_wp2
          refine wp_region_held_drew (S := fun W => Below w.heap.size w W) (by kernel_rfl) ?_ (fun hHeld => ?_)
          · exact HN1.drew
          have HO1 := Lib.hid HO1.out.drew
          revert HO1
          revert hHeld
          generalize World.drew _ = W1
          intro hHeld HO1
          refine wpAnyH_take (i := 0) (v := ?_) rfl (by kernel_rfl) (by kernel_rfl) (by kernel_rfl) (fun _ _ _ h => h) (Or.inl ⟨by rfl, ?_⟩) (by assumption) ?_
          rotate_left
          · intro Wq hSw
            clear hSw
            go_simp
            all_goals (with_reducible rfl)
          try simp only [Act.put, List.getElem_toArray, List.getElem_cons_zero, List.setIfInBounds_toArray, List.set_cons_zero, List.set_cons_succ]
          refine wpAnyH_take (i := 1) (v := ?_) rfl (by kernel_rfl) (by kernel_rfl) (by kernel_rfl) (fun _ _ _ h => h) (Or.inl ⟨by rfl, ?_⟩) (by assumption) ?_
          rotate_left
          · intro Wq hSw
            clear hSw
            go_simp
            all_goals (with_reducible rfl)
          try simp only [Act.put, List.getElem_toArray, List.getElem_cons_succ, List.getElem_cons_zero, List.setIfInBounds_toArray, List.set_cons_zero, List.set_cons_succ]
          refine wpAnyH_take (i := 2) (v := ?_) rfl (by kernel_rfl) (by kernel_rfl) (by kernel_rfl) (fun _ _ _ h => h) (Or.inl ⟨by rfl, ?_⟩) (by assumption) ?_
          rotate_left
          · intro Wq hSw
            clear hSw
            go_simp
            all_goals (with_reducible rfl)
          try simp only [Act.put, List.getElem_toArray, List.getElem_cons_succ, List.getElem_cons_zero, List.setIfInBounds_toArray, List.set_cons_zero, List.set_cons_succ]
          refine wpAnyH_take (i := 3) (v := ?_) rfl (by kernel_rfl) (by kernel_rfl) (by kernel_rfl) (fun _ _ _ h => h) (Or.inl ⟨by rfl, ?_⟩) (by assumption) ?_
          rotate_left
          · intro Wq hSw
            have k0 := intRow_at (HB.out.below hSw) (i := 0) (Nat.succ_pos _) rfl
            simp only [Nat.add_zero, List.getElem_cons_zero] at k0
            clear hSw
            go_simp
            all_goals (with_reducible rfl)
          try simp only [Act.put, List.getElem_toArray, List.getElem_cons_succ, List.getElem_cons_zero, List.setIfInBounds_toArray, List.set_cons_zero, List.set_cons_succ]
          refine wpAnyH_take (i := 6) (v := ?_) rfl (by kernel_rfl) (by kernel_rfl) (by kernel_rfl) (fun _ _ _ h => h) (Or.inl ⟨by rfl, ?_⟩) (by assumption) ?_
          rotate_left
          · intro Wq hSw
            clear hSw
            go_simp
            all_goals (with_reducible rfl)
          try simp only [Act.put, List.getElem_toArray, List.getElem_cons_succ, List.getElem_cons_zero, List.setIfInBounds_toArray, List.set_cons_zero, List.set_cons_succ]
          refine wpAnyH_take (i := 7) (v := ?_) rfl (by kernel_rfl) (by kernel_rfl) (by kernel_rfl) (fun _ _ _ h => h) (Or.inl ⟨by rfl, ?_⟩) (by assumption) ?_
          rotate_left
          · intro Wq hSw
            have p3 : ((1 : Int) ≤ (((ys).length : Nat) : Int) + 1) = True := eq_true (by omega)
            clear hSw
            go_simp
            all_goals (with_reducible rfl)
          try simp only [Act.put, List.getElem_toArray, List.getElem_cons_succ, List.getElem_cons_zero, List.setIfInBounds_toArray, List.set_cons_zero, List.set_cons_succ]
          refine r1 (i := 4) rfl (fun K hK => ?_)
          go_simp
          refine hK.out _ _ (bl_alloc hHeld _) (fun hHeld2 => ?_)
          clear hK K hHeld
          have hHeld := hHeld2
          clear hHeld2
          try simp only [Act.put, List.getElem_toArray, List.getElem_cons_succ, List.getElem_cons_zero, List.setIfInBounds_toArray, List.set_cons_zero, List.set_cons_succ]
          refine r1 (i := 5) rfl (fun K hK => ?_)
          refine app_ints_wp (L := [y]) (.tmp 34) (.tmp 38) rfl rfl (HO1.out.alloc _) rfl rfl (intRow_new _ _ _) (fun h => by cases h) ?lim (fun v2 w2 hO2 => ?_)
          case lim => simp at hl ⊢; omega
          have HO2 := Lib.hid hO2
          clear hO2
          refine hK.out _ _ HO2.out.hb (fun hHeld2 => ?_)
          clear hK K hHeld
          have hHeld := hHeld2
          clear hHeld2
          try simp only [Act.put, List.getElem_toArray, List.getElem_cons_succ, List.getElem_cons_zero, List.setIfInBounds_toArray, List.set_cons_zero, List.set_cons_succ]
          refine wpAnyH_take (i := 8) (v := ?_) rfl (by kernel_rfl) (by kernel_rfl) (by kernel_rfl) (fun _ _ _ h => h) (Or.inl ⟨by rfl, ?_⟩) (by assumption) ?_
          rotate_left
          · intro Wq hSw
            clear hSw
            go_simp
            all_goals (with_reducible rfl)
          try simp only [Act.put, List.getElem_toArray, List.getElem_cons_succ, List.getElem_cons_zero, List.setIfInBounds_toArray, List.set_cons_zero, List.set_cons_succ]
          refine wpAnyH_take (i := 9) (v := ?_) rfl (by kernel_rfl) (by kernel_rfl) (by kernel_rfl) (fun _ _ _ h => h) (Or.inl ⟨by rfl, ?_⟩) (by assumption) ?_
          rotate_left
          · intro Wq hSw
            clear hSw
            go_simp
            all_goals (with_reducible rfl)
          try simp only [Act.put, List.getElem_toArray, List.getElem_cons_succ, List.getElem_cons_zero, List.setIfInBounds_toArray, List.set_cons_zero, List.set_cons_succ]
          refine wpAnyH_done (by kernel_rfl) ?_ _
          go_wp2_with fail
          have hc1' := hc1
          simp only [List.length_cons] at hc1 hc2 hl
          refine ⟨⟨D ++ [y], x :: xs, ys, _, _, _, _, rfl, rfl, by simp; omega, by omega, (fun h => by cases h), (fun h => by split at h <;> cases h), HA.out, (HB.out.drop 1 (fun g o e h => by cases e; simp at h; rw [if_neg (by omega)])), HPA'.out, fun z hz => HPB'.out z (List.mem_cons_of_mem _ hz), ?_, by simp; omega, HO2.out⟩, by simp only [vlen, List.length_cons]; omega⟩
          rw [← HD.out, mrgW_b hlt, List.append_assoc]
          rfl
        | false =>
          rw [hlt] at HLC
          go_wp2_with fail
          refine wp_region_held_drew (S := fun W => Below w.heap.size w W) (by kernel_rfl) ?_ (fun hHeld => ?_)
          · exact hnx.drew
          have HO1 := Lib.hid HO.out.drew
          clear HO
          revert HO1
          revert hHeld
          generalize World.drew _ = W1
          intro hHeld HO1
          refine wpAnyH_take (i := 0) (v := ?_) rfl (by kernel_rfl) (by kernel_rfl) (by kernel_rfl) (fun _ _ _ h => h) (Or.inl ⟨by rfl, ?_⟩) (by assumption) ?_
          rotate_left
          · intro Wq hSw
            clear hSw
            go_simp
            all_goals (with_reducible rfl)
          try simp only [Act.put, List.getElem_toArray, List.getElem_cons_zero, List.setIfInBounds_toArray, List.set_cons_zero, List.set_cons_succ]
          refine wpAnyH_take (i := 1) (v := ?_) rfl (by kernel_rfl) (by kernel_rfl) (by kernel_rfl) (fun _ _ _ h => h) (Or.inl ⟨by rfl, ?_⟩) (by assumption) ?_
          rotate_left
          · intro Wq hSw
            have hne := HNE.out Wq
            clear hSw
            go_simp
            all_goals (with_reducible rfl)
          try simp only [Act.put, List.getElem_toArray, List.getElem_cons_succ, List.getElem_cons_zero, List.setIfInBounds_toArray, List.set_cons_zero, List.set_cons_succ]
          refine wpAnyH_take (i := 2) (v := ?_) rfl (by kernel_rfl) (by kernel_rfl) (by kernel_rfl) (fun _ _ _ h => h) (Or.inl ⟨by rfl, ?_⟩) (by assumption) ?_
          rotate_left
          · intro Wq hSw
            clear hSw
            go_simp
            all_goals (with_reducible rfl)
          try simp only [Act.put, List.getElem_toArray, List.getElem_cons_succ, List.getElem_cons_zero, List.setIfInBounds_toArray, List.set_cons_zero, List.set_cons_succ]
          refine wpAnyH_take (i := 3) (v := ?_) rfl (by kernel_rfl) (by kernel_rfl) (by kernel_rfl) (fun _ _ _ h => h) (Or.inl ⟨by rfl, ?_⟩) (by assumption) ?_
          rotate_left
          · intro Wq hSw
            clear hSw
            go_simp
            all_goals (with_reducible rfl)
          try simp only [Act.put, List.getElem_toArray, List.getElem_cons_succ, List.getElem_cons_zero, List.setIfInBounds_toArray, List.set_cons_zero, List.set_cons_succ]
          refine wpAnyH_take (i := 4) (v := ?_) rfl (by kernel_rfl) (by kernel_rfl) (by kernel_rfl) (fun _ _ _ h => h) (Or.inl ⟨by rfl, ?_⟩) (by assumption) ?_
          rotate_left
          · intro Wq hSw
            clear hSw
            go_simp
            all_goals (with_reducible rfl)
          try simp only [Act.put, List.getElem_toArray, List.getElem_cons_succ, List.getElem_cons_zero, List.setIfInBounds_toArray, List.set_cons_zero, List.set_cons_succ]
          refine wpAnyH_take (i := 5) (v := ?_) rfl (by kernel_rfl) (by kernel_rfl) (by kernel_rfl) (fun _ _ _ h => h) (Or.inl ⟨by rfl, ?_⟩) (by assumption) ?_
          rotate_left
          · intro Wq hSw
            clear hSw
            go_simp
            all_goals (with_reducible rfl)
          try simp only [Act.put, List.getElem_toArray, List.getElem_cons_succ, List.getElem_cons_zero, List.setIfInBounds_toArray, List.set_cons_zero, List.set_cons_succ]
          refine wpAnyH_take (i := 6) (v := ?_) rfl (by kernel_rfl) (by kernel_rfl) (by kernel_rfl) (fun _ _ _ h => h) (Or.inl ⟨by rfl, ?_⟩) (by assumption) ?_
          rotate_left
          · intro Wq hSw
            have k0 := intRow_at (HB.out.below hSw) (i := 0) (Nat.succ_pos _) rfl
            simp only [Nat.add_zero, List.getElem_cons_zero] at k0
            clear hSw
            go_simp
            all_goals (with_reducible rfl)
          try simp only [Act.put, List.getElem_toArray, List.getElem_cons_succ, List.getElem_cons_zero, List.setIfInBounds_toArray, List.set_cons_zero, List.set_cons_succ]
          refine wpAnyH_take (i := 7) (v := ?_) rfl (by kernel_rfl) (by kernel_rfl) (by kernel_rfl) (fun _ _ _ h => h) (Or.inl ⟨by rfl, ?_⟩) (by assumption) ?_
          rotate_left
          · intro Wq hSw
            clear hSw
            go_simp
            all_goals (with_reducible rfl)
          try simp only [Act.put, List.getElem_toArray, List.getElem_cons_succ, List.getElem_cons_zero, List.setIfInBounds_toArray, List.set_cons_zero, List.set_cons_succ]
          refine wpAnyH_take (i := 8) (v := ?_) rfl (by kernel_rfl) (by kernel_rfl) (by kernel_rfl) (fun _ _ _ h => h) (Or.inl ⟨by rfl, ?_⟩) (by assumption) ?_
          rotate_left
          · intro Wq hSw
            clear hSw
            go_simp
            all_goals (with_reducible rfl)
          try simp only [Act.put, List.getElem_toArray, List.getElem_cons_succ, List.getElem_cons_zero, List.setIfInBounds_toArray, List.set_cons_zero, List.set_cons_succ]
          refine wpAnyH_take (i := 9) (v := ?_) rfl (by kernel_rfl) (by kernel_rfl) (by kernel_rfl) (fun _ _ _ h => h) (Or.inl ⟨by rfl, ?_⟩) (by assumption) ?_
          rotate_left
          · intro Wq hSw
            have k0 := intRow_at (HA.out.below hSw) (i := 0) (Nat.succ_pos _) rfl
            simp only [Nat.add_zero, List.getElem_cons_zero] at k0
            clear hSw
            go_simp
            all_goals (with_reducible rfl)
          try simp only [Act.put, List.getElem_toArray, List.getElem_cons_succ, List.getElem_cons_zero, List.setIfInBounds_toArray, List.set_cons_zero, List.set_cons_succ]
          refine r1 (i := 10) rfl (fun K hK => ?_)
          go_simp
          with_reducible refine (HLC.out _ hHeld).mono ?_
          rintro e w1 ⟨rfl, hb1⟩
          go_wp2_with fail
          refine hK.out _ _ (bl_trans hHeld hb1) (fun hHeld2 => ?_)
          replace HO1 := Lib.hid (HO1.out.below hb1)
          clear hK K hHeld
          have hHeld := hHeld2
          clear hHeld2
          try simp only [Act.put, List.getElem_toArray, List.getElem_cons_succ, List.getElem_cons_zero, List.setIfInBounds_toArray, List.set_cons_zero, List.set_cons_succ]
          refine wpAnyH_take (i := 11) (v := ?_) rfl (by kernel_rfl) (by kernel_rfl) (by kernel_rfl) (fun _ _ _ h => h) (Or.inl ⟨by rfl, ?_⟩) (by assumption) ?_
          rotate_left
          · intro Wq hSw
            clear hSw
            go_simp
            all_goals (with_reducible rfl)
          try simp only [Act.put, List.getElem_toArray, List.getElem_cons_succ, List.getElem_cons_zero, List.setIfInBounds_toArray, List.set_cons_zero, List.set_cons_succ]
          refine wpAnyH_done (by kernel_rfl) ?_ _
          have HN1 := hHeld
          clear hHeld
          go_wp2
          refine wp_region_held_drew (S := fun W => Below w.heap.size w W) (by kernel_rfl) ?_ (fun hHeld => ?_)
          · exact HN1.drew
          have HO1 := Lib.hid HO1.out.drew
          revert HO1
          revert hHeld
          generalize World.drew _ = W1
          intro hHeld HO1
          refine wpAnyH_take (i := 0) (v := ?_) rfl (by kernel_rfl) (by kernel_rfl) (by kernel_rfl) (fun _ _ _ h => h) (Or.inl ⟨by rfl, ?_⟩) (by assumption) ?_
          rotate_left
          · intro Wq hSw
            clear hSw
            go_simp
            all_goals (with_reducible rfl)
          try simp only [Act.put, List.getElem_toArray, List.getElem_cons_zero, List.setIfInBounds_toArray, List.set_cons_zero, List.set_cons_succ]
          refine wpAnyH_take (i := 1) (v := ?_) rfl (by kernel_rfl) (by kernel_rfl) (by kernel_rfl) (fun _ _ _ h => h) (Or.inl ⟨by rfl, ?_⟩) (by assumption) ?_
          rotate_left
          · intro Wq hSw
            clear hSw
            go_simp
            all_goals (with_reducible rfl)
          try simp only [Act.put, List.getElem_toArray, List.getElem_cons_succ, List.getElem_cons_zero, List.setIfInBounds_toArray, List.set_cons_zero, List.set_cons_succ]
          refine wpAnyH_take (i := 2) (v := ?_) rfl (by kernel_rfl) (by kernel_rfl) (by kernel_rfl) (fun _ _ _ h => h) (Or.inl ⟨by rfl, ?_⟩) (by assumption) ?_
          rotate_left
          · intro Wq hSw
            clear hSw
            go_simp
            all_goals (with_reducible rfl)
          try simp only [Act.put, List.getElem_toArray, List.getElem_cons_succ, List.getElem_cons_zero, List.setIfInBounds_toArray, List.set_cons_zero, List.set_cons_succ]
          refine wpAnyH_take (i := 3) (v := ?_) rfl (by kernel_rfl) (by kernel_rfl) (by kernel_rfl) (fun _ _ _ h => h) (Or.inl ⟨by rfl, ?_⟩) (by assumption) ?_
          rotate_left
          · intro Wq hSw
            have k0 := intRow_at (HA.out.below hSw) (i := 0) (Nat.succ_pos _) rfl
            simp only [Nat.add_zero, List.getElem_cons_zero] at k0
            clear hSw
            go_simp
            all_goals (with_reducible rfl)
          try simp only [Act.put, List.getElem_toArray, List.getElem_cons_succ, List.getElem_cons_zero, List.setIfInBounds_toArray, List.set_cons_zero, List.set_cons_succ]
          refine wpAnyH_take (i := 6) (v := ?_) rfl (by kernel_rfl) (by kernel_rfl) (by kernel_rfl) (fun _ _ _ h => h) (Or.inl ⟨by rfl, ?_⟩) (by assumption) ?_
          rotate_left
          · intro Wq hSw
            clear hSw
            go_simp
            all_goals (with_reducible rfl)
          try simp only [Act.put, List.getElem_toArray, List.getElem_cons_succ, List.getElem_cons_zero, List.setIfInBounds_toArray, List.set_cons_zero, List.set_cons_succ]
          refine wpAnyH_take (i := 7) (v := ?_) rfl (by kernel_rfl) (by kernel_rfl) (by kernel_rfl) (fun _ _ _ h => h) (Or.inl ⟨by rfl, ?_⟩) (by assumption) ?_
          rotate_left
          · intro Wq hSw
            have p3 : ((1 : Int) ≤ (((xs).length : Nat) : Int) + 1) = True := eq_true (by omega)
            clear hSw
            go_simp
            all_goals (with_reducible rfl)
          try simp only [Act.put, List.getElem_toArray, List.getElem_cons_succ, List.getElem_cons_zero, List.setIfInBounds_toArray, List.set_cons_zero, List.set_cons_succ]
          refine r1 (i := 4) rfl (fun K hK => ?_)
          go_simp
          refine hK.out _ _ (bl_alloc hHeld _) (fun hHeld2 => ?_)
          clear hK K hHeld
          have hHeld := hHeld2
          clear hHeld2
          try simp only [Act.put, List.getElem_toArray, List.getElem_cons_succ, List.getElem_cons_zero, List.setIfInBounds_toArray, List.set_cons_zero, List.set_cons_succ]
          refine r1 (i := 5) rfl (fun K hK => ?_)
          refine app_ints_wp (L := [x]) (.tmp 42) (.tmp 46) rfl rfl (HO1.out.alloc _) rfl rfl (intRow_new _ _ _) (fun h => by cases h) ?lim (fun v2 w2 hO2 => ?_)
          case lim => simp at hl ⊢; omega
          have HO2 := Lib.hid hO2
          clear hO2
          refine hK.out _ _ HO2.out.hb (fun hHeld2 => ?_)
          clear hK K hHeld
          have hHeld := hHeld2
          clear hHeld2
          try simp only [Act.put, List.getElem_toArray, List.getElem_cons_succ, List.getElem_cons_zero, List.setIfInBounds_toArray, List.set_cons_zero, List.set_cons_succ]
          refine wpAnyH_take (i := 8) (v := ?_) rfl (by kernel_rfl) (by kernel_rfl) (by kernel_rfl) (fun _ _ _ h => h) (Or.inl ⟨by rfl, ?_⟩) (by assumption) ?_
          rotate_left
          · intro Wq hSw
            clear hSw
            go_simp
            all_goals (with_reducible rfl)
          try simp only [Act.put, List.getElem_toArray, List.getElem_cons_succ, List.getElem_cons_zero, List.setIfInBounds_toArray, List.set_cons_zero, List.set_cons_succ]
          refine wpAnyH_take (i := 9) (v := ?_) rfl (by kernel_rfl) (by kernel_rfl) (by kernel_rfl) (fun _ _ _ h => h) (Or.inl ⟨by rfl, ?_⟩) (by assumption) ?_
          rotate_left
          · intro Wq hSw
            clear hSw
            go_simp
            all_goals (with_reducible rfl)
          try simp only [Act.put, List.getElem_toArray, List.getElem_cons_succ, List.getElem_cons_zero, List.setIfInBounds_toArray, List.set_cons_zero]
          refine wpAnyH_done (by kernel_rfl) ?_ _
          go_wp2_with fail
          have hc1' := hc1
          simp only [List.length_cons] at hc1 hc2 hl
          refine ⟨⟨D ++ [x], xs, y :: ys, _, _, _, _, rfl, rfl, by omega, by simp; omega, (fun h => by split at h <;> cases h), (fun h => by cases h), (HA.out.drop 1 (fun g o e h => by cases e; simp at h; rw [if_neg (by omega)])), HB.out, fun z hz => HPA'.out z (List.mem_cons_of_mem _ hz), HPB'.out, ?_, by simp; omega, HO2.out⟩, by simp only [vlen, List.length_cons]; omega⟩
          rw [← HD.out, mrgW_a hlt, List.append_assoc]
          rfl
theorem mergeI_n (f : FuncId) (caps : Array Value) (lt : Int → Int → Bool) (Pm : Int → Prop) (A B : List Int) (ada adb : Option Addr) (capa capb na nb : Nat) (w : World) (hcf : ∀ args w, (callFunc f args).run Try.prog w = .ok (.enter f args) w)
    (HL : AsksI f caps lt Pm w) (hPA : ∀ x ∈ A, Pm x) (hPB : ∀ x ∈ B, Pm x) (hA : IntRow w ada A) (hB : IntRow w adb B) (ea : na = A.length) (eb : nb = B.length) (hca : A.length ≤ capa) (hcb : B.length ≤ capb) (hna : ada = none → capa = 0) (hnb : adb = none → capb = 0) (hlen : A.length + B.length ≤ 10000) :
    Calls Try.prog 22 #[.slice ada na capa, .slice adb nb capb, .func (.func f) #[] caps] w fun e w' => ∃ v, e = .returned v ∧ Oi w v (mrgW lt A B) w' := by
  subst ea eb
  exact mergeI_l f caps lt Pm A B ada adb capa capb w hcf HL hPA hPB hA hB hca hcb hna hnb hlen
end Go.Proofs.Ytmkegehkifpkjaa
