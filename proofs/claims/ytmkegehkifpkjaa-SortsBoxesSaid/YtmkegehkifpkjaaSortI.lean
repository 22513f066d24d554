/-
  Contract of sorts.Sort[int].
-/
import Derived.Test.YtmkegehkifpkjaaMergeI
namespace Go.Proofs.Ytmkegehkifpkjaa
open Go.RowKit

set_option maxHeartbeats 8000000 in
set_option maxRecDepth 100000 in
theorem sortI_l (f : FuncId) (caps : Array Value) (lt : Int → Int → Bool) (Pm : Int → Prop) (hcf : ∀ args w, (callFunc f args).run Try.prog w = .ok (.enter f args) w) (L : List Int) :
    ∀ (ad : Option Addr) (cap : Nat) (w : World) (n : Nat), AsksI f caps lt Pm w → (∀ x ∈ L, Pm x) → IntRow w ad L → n = L.length → L.length ≤ cap → (ad = none → cap = 0) → L.length ≤ 10000 →
    Calls Try.prog 25 #[.slice ad n cap, .func (.func f) #[] caps] w fun e w' => ∃ v, e = .returned v ∧ Oi w v (msort lt L) w' := by
  induction L using msort_ind with
  | h1 L hl =>
    rintro ad cap w _ HL hP hA rfl hca hn hlen
    have HA := Lib.hid hA
    have HN := Lib.hid hn
    clear HL hP hA hn
    have p1 : (((L.length : Nat) : Int) < 2) = True := eq_true (by omega)
    go_enter Try.func25, Try.ntmps25
    go_wp2_with (at_builtin; refine app_ints rfl _ _ rfl rfl (oi_nil w) rfl (L := L) rfl HA.out HN.out ?x1 ?_)
    case x1 => simp; omega
    intro v1 w1 hO1
    have HO1 := Lib.hid hO1
    clear hO1
    go_wp2_with fail
    go_ret
    rw [msort_small lt hl]
    exact ⟨_, rfl, HO1.out⟩
  | h2 L hl ih1 ih2 =>
    rintro ad cap w _ HL hP hA rfl hca hn hlen
    obtain ⟨g, o, rfl⟩ := hA.some (by omega)
    have HA := Lib.hid hA
    have HP := Lib.hid hP
    have HLL := Lib.hid HL
    have IH1 := Lib.hid ih1
    have IH2 := Lib.hid ih2
    clear HL hP hA hn ih1 ih2
    have p1 : (((L.length : Nat) : Int) < 2) = False := eq_false (by omega)
    have p2 : Int.tdiv ((L.length : Nat) : Int) 2 = ((L.length / 2 : Nat) : Int) := rfl
    have p3 : IntKind.i64.wrap ((L.length / 2 : Nat) : Int) = ((L.length / 2 : Nat) : Int) := IntWalk.i64_in _ (by omega)
    go_enter Try.func25, Try.ntmps25
    go_wp2_with fail
    have ek : ((L.length : Nat) : Int) / 2 = ((L.length / 2 : Nat) : Int) := by omega
    simp only [ek]
    have hk1 : 1 ≤ L.length / 2 := by omega
    have hk2 : L.length / 2 ≤ L.length := by omega
    have hk3 : L.length / 2 < L.length := by omega
    have lt1 := msort_len lt (L.take (L.length / 2))
    have ld1 := msort_len lt (L.drop (L.length / 2))
    have HE := Lib.hid (msort_half lt hl)
    rw [List.length_take, Nat.min_eq_left hk2] at lt1
    rw [List.length_drop] at ld1
    clear p1 p2 p3 ek hl
    generalize L.length / 2 = k at *
    have c1 : ((k : Int) ≤ ((L.length : Nat) : Int)) = True := eq_true (by omega)
    have c2 : ((k : Int) ≤ (cap : Int)) = True := eq_true (by omega)
    have c4 : (cap = k) = False := eq_false (by omega)
    have c3 : ((0 : Int) ≤ (k : Int)) = True := eq_true (by omega)
    refine wp_region_held_drew (S := fun W => Below w.heap.size w W) (by kernel_rfl) ?_ (fun hHeld => ?_)
    · exact bel_drew w
    revert hHeld
    generalize World.drew _ = W1
    intro hHeld 
    refine wpAnyH_take (i := 0) (v := ?_) rfl (by kernel_rfl) (by kernel_rfl) (by kernel_rfl) (fun _ _ _ h => h) (Or.inl ⟨by rfl, ?_⟩) (by assumption) ?_
    rotate_left
    · intro Wq hSw
      clear hSw
      go_simp
      all_goals (with_reducible rfl)
    try simp only [Act.put, List.getElem_toArray, List.getElem_cons_zero, List.setIfInBounds_toArray, List.set_cons_zero, List.set_cons_succ]
    refine wpAnyH_take (i := 1) (v := ?_) rfl (by kernel_rfl) (by kernel_rfl) (by kernel_rfl) (fun _ _ _ h => h) (Or.inl ⟨by rfl, ?_⟩) (by assumption) ?_
    rotate_left
    · intro Wq hSw
      clear hSw
      go_simp
      all_goals (with_reducible rfl)
    try simp only [Act.put, List.getElem_toArray, List.getElem_cons_succ, List.getElem_cons_zero, List.setIfInBounds_toArray, List.set_cons_zero, List.set_cons_succ]
    refine wpAnyH_take (i := 2) (v := ?_) rfl (by kernel_rfl) (by kernel_rfl) (by kernel_rfl) (fun _ _ _ h => h) (Or.inl ⟨by rfl, ?_⟩) (by assumption) ?_
    rotate_left
    · intro Wq hSw
      clear hSw
      go_simp
      all_goals (with_reducible rfl)
    try simp only [Act.put, List.getElem_toArray, List.getElem_cons_succ, List.getElem_cons_zero, List.setIfInBounds_toArray, List.set_cons_zero, List.set_cons_succ]
    refine wpAnyH_take (i := 3) (v := ?_) rfl (by kernel_rfl) (by kernel_rfl) (by kernel_rfl) (fun _ _ _ h => h) (Or.inl ⟨by rfl, ?_⟩) (by assumption) ?_
    rotate_left
    · intro Wq hSw
      clear hSw
      go_simp
      all_goals (with_reducible rfl)
    try simp only [Act.put, List.getElem_toArray, List.getElem_cons_succ, List.getElem_cons_zero, List.setIfInBounds_toArray, List.set_cons_zero, List.set_cons_succ]
    refine wpAnyH_take (i := 5) (v := ?_) rfl (by kernel_rfl) (by kernel_rfl) (by kernel_rfl) (fun _ _ _ h => h) (Or.inl ⟨by rfl, ?_⟩) (by assumption) ?_
    rotate_left
    · intro Wq hSw
      clear hSw
      go_simp
      all_goals (with_reducible rfl)
    try simp only [Act.put, List.getElem_toArray, List.getElem_cons_succ, List.getElem_cons_zero, List.setIfInBounds_toArray, List.set_cons_zero, List.set_cons_succ]
    refine wpAnyH_take (i := 6) (v := ?_) rfl (by kernel_rfl) (by kernel_rfl) (by kernel_rfl) (fun _ _ _ h => h) (Or.inl ⟨by rfl, ?_⟩) (by assumption) ?_
    rotate_left
    · intro Wq hSw
      clear hSw
      go_simp
      all_goals (with_reducible rfl)
    try simp only [Act.put, List.getElem_toArray, List.getElem_cons_succ, List.getElem_cons_zero, List.setIfInBounds_toArray, List.set_cons_zero, List.set_cons_succ]
    refine wpAnyH_take (i := 7) (v := ?_) rfl (by kernel_rfl) (by kernel_rfl) (by kernel_rfl) (fun _ _ _ h => h) (Or.inl ⟨by rfl, ?_⟩) (by assumption) ?_
    rotate_left
    · intro Wq hSw
      clear hSw
      go_simp
      all_goals (with_reducible rfl)
    try simp only [Act.put, List.getElem_toArray, List.getElem_cons_succ, List.getElem_cons_zero, List.setIfInBounds_toArray, List.set_cons_zero, List.set_cons_succ]
    refine wpAnyH_take (i := 8) (v := ?_) rfl (by kernel_rfl) (by kernel_rfl) (by kernel_rfl) (fun _ _ _ h => h) (Or.inl ⟨by rfl, ?_⟩) (by assumption) ?_
    rotate_left
    · intro Wq hSw
      clear hSw
      go_simp
      all_goals (with_reducible rfl)
    try simp only [Act.put, List.getElem_toArray, List.getElem_cons_succ, List.getElem_cons_zero, List.setIfInBounds_toArray, List.set_cons_zero, List.set_cons_succ]
    refine wpAnyH_take (i := 10) (v := ?_) rfl (by kernel_rfl) (by kernel_rfl) (by kernel_rfl) (fun _ _ _ h => h) (Or.inl ⟨by rfl, ?_⟩) (by assumption) ?_
    rotate_left
    · intro Wq hSw
      clear hSw
      go_simp
      all_goals (with_reducible rfl)
    try simp only [Act.put, List.getElem_toArray, List.getElem_cons_succ, List.getElem_cons_zero, List.setIfInBounds_toArray, List.set_cons_zero, List.set_cons_succ]
    refine r1 (i := 4) rfl (fun K hK => ?_)
    go_simp
    have hc1 := IH1.out _ cap _ k (HLL.out.below hHeld) (fun z hz => HP.out z (List.mem_of_mem_take hz)) ((HA.out.take k).below hHeld) (by rw [List.length_take]; omega) (by rw [List.length_take]; omega) (fun h => by cases h) (by rw [List.length_take]; omega)
    with_reducible refine hc1.mono ?_
    clear hc1
    rintro e w1 ⟨v1, rfl, hO1⟩
    have hb1 := hO1.hb
    have HO1 := Lib.hid (hO1.base hHeld)
    clear hO1
    go_wp2_with fail
    refine hK.out _ _ (bl_trans hHeld hb1) (fun hHeld2 => ?_)
    clear hK K hHeld
    have hHeld := hHeld2
    clear hHeld2
    try simp only [Act.put, List.getElem_toArray, List.getElem_cons_succ, List.getElem_cons_zero, List.setIfInBounds_toArray, List.set_cons_zero, List.set_cons_succ]
    refine r1 (i := 9) rfl (fun K hK => ?_)
    go_simp
    have hc2 := IH2.out (some ⟨g, o + k, none⟩) (cap - k) _ (L.length - k) (HLL.out.below hHeld) (fun z hz => HP.out z (List.mem_of_mem_drop hz)) ((HA.out.drop k (fun g o h _ => by cases h; rfl)).below hHeld) (by rw [List.length_drop]) (by rw [List.length_drop]; omega) (fun h => by cases h) (by rw [List.length_drop]; omega)
    with_reducible refine hc2.mono ?_
    clear hc2
    rintro e w2 ⟨v2, rfl, hO2⟩
    have hb1 := hO2.hb
    have HO2 := Lib.hid (hO2.base hHeld)
    clear hO2
    go_wp2_with fail
    refine hK.out _ _ (bl_trans hHeld hb1) (fun hHeld2 => ?_)
    replace HO1 := Lib.hid (HO1.out.below hb1)
    clear hK K hHeld
    have hHeld := hHeld2
    clear hHeld2
    try simp only [Act.put, List.getElem_toArray, List.getElem_cons_succ, List.getElem_cons_zero, List.setIfInBounds_toArray, List.set_cons_zero, List.set_cons_succ]
    refine r1 (i := 11) rfl (fun K hK => ?_)
    obtain ⟨ad1, cp1, rfl, hcp1, hr1, hn1⟩ := HO1.out.slice
    obtain ⟨ad2, cp2, rfl, hcp2, hr2, hn2⟩ := HO2.out.slice
    have hc3 := mergeI_n f caps lt Pm (msort lt (L.take k)) (msort lt (L.drop k)) ad1 ad2 cp1 cp2 k (L.length - k) _ hcf (HLL.out.below hHeld) (fun z hz => HP.out z (List.mem_of_mem_take ((msort_perm _ _).mem_iff.1 hz))) (fun z hz => HP.out z (List.mem_of_mem_drop ((msort_perm _ _).mem_iff.1 hz))) (hr1.below (Below.refl _ _)) (hr2.below (Below.refl _ _)) lt1.symm ld1.symm hcp1 hcp2 hn1 hn2 (by omega)
    have HC3 := Lib.hid hc3
    clear hc3 hr1 hr2 hn1 hn2
    rw [lt1, ld1] at *
    go_simp
    with_reducible refine HC3.out.mono ?_
    rintro e w3 ⟨v3, rfl, hO3⟩
    have hb1 := hO3.hb
    have HO3 := Lib.hid (hO3.base hHeld)
    clear hO3
    go_wp2_with fail
    refine hK.out _ _ (bl_trans hHeld hb1) (fun hHeld2 => ?_)
    clear hK K hHeld
    have hHeld := hHeld2
    clear hHeld2
    try simp only [Act.put, List.getElem_toArray, List.getElem_cons_succ, List.getElem_cons_zero, List.setIfInBounds_toArray, List.set_cons_zero, List.set_cons_succ]
    refine wpAnyH_take (i := 12) (v := ?_) rfl (by kernel_rfl) (by kernel_rfl) (by kernel_rfl) (fun _ _ _ h => h) (Or.inl ⟨by rfl, ?_⟩) (by assumption) ?_
    rotate_left
    · intro Wq hSw
      clear hSw
      go_simp
      all_goals (with_reducible rfl)
    try simp only [Act.put, List.getElem_toArray, List.getElem_cons_succ, List.getElem_cons_zero, List.setIfInBounds_toArray, List.set_cons_zero, List.set_cons_succ]
    refine wpAnyH_done (by kernel_rfl) ?_ _
    go_wp2_with fail
    go_ret
    rw [HE.out]
    exact ⟨_, rfl, HO3.out⟩
end Go.Proofs.Ytmkegehkifpkjaa
