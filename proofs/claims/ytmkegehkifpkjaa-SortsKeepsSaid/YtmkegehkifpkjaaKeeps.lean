/-
  The law SortsKeeps.
-/
import Derived.Deep.Cut
import Derived.Test.YtmkegehkifpkjaaCountI
import Derived.Test.YtmkegehkifpkjaaBucket
import Derived.Test.YtmkegehkifpkjaaKnown7
namespace Go.Proofs.Ytmkegehkifpkjaa
open Go.RowKit

theorem cnt_app (A B : List Int) (x : Int) : cnt (A ++ B) x = cnt A x + cnt B x := by unfold cnt; exact List.countP_append
theorem cnt_mrg (lt : Int → Int → Bool) (A B : List Int) (x : Int) : cnt (mrgW lt A B) x = cnt A x + cnt B x := by
  rw [← cnt_app]
  exact (mrgW_perm lt A B).countP_eq _
theorem cnt_srt (lt : Int → Int → Bool) (A : List Int) (x : Int) : cnt (msort lt A) x = cnt A x := (msort_perm lt A).countP_eq _
theorem bkt_bks (A : List Int) (d : Nat) : ∀ n : Nat, bkt (bks A n) d = if d < n then bkt A d else []
  | 0 => by rw [if_neg (by omega)]; rfl
  | n + 1 => by
    show bkt (bks A n ++ bkt A n) d = _
    rw [bkt_app, bkt_bks A d n]
    by_cases h : d < n
    · rw [if_pos h, if_pos (by omega)]
      have : bkt (bkt A n) d = [] := by
        unfold bkt
        rw [List.filter_filter, List.filter_eq_nil_iff]
        intro a _
        simp
        omega
      rw [this, List.append_nil]
    · rw [if_neg h, List.nil_append]
      by_cases h2 : d = n
      · subst h2
        rw [if_pos (by omega)]
        unfold bkt
        rw [List.filter_filter]
        simp
      · rw [if_neg (by omega)]
        unfold bkt
        rw [List.filter_filter, List.filter_eq_nil_iff]
        intro a _
        simp
        omega
theorem bks_bks (A : List Int) (m : Nat) : ∀ n : Nat, n ≤ m → bks (bks A m) n = bks A n
  | 0, _ => rfl
  | n + 1, h => by
    show bks (bks A m) n ++ bkt (bks A m) n = bks A n ++ bkt A n
    rw [bks_bks A m n (by omega), bkt_bks, if_pos (by omega)]
theorem msort_twice (A : List Int) : msort ltD (msort ltD A) = msort ltD A := by rw [msort_bks, msort_bks, bks_bks _ _ _ (Nat.le_refl _)]
theorem owns_kept {W W' : World} {base : Nat} {e : TypeId} {size n : Nat} {v : Value} {xs : List Value} {row : Option Nat} (h : W.ownsRow base e size v n xs) (hg : W.grownBy W' row) (hr : ∀ g, v.ownBlock = some g → row ≠ some g) : W'.ownsRow base e size v n xs := by
  refine ⟨h.1, ?_⟩
  rcases h.2 with h | ⟨g, cap, cur, rfl, hb, hc, rest⟩
  · exact .inl h
  · exact .inr ⟨g, cap, cur, rfl, hb, (hg.block g (Array.getElem?_eq_some_iff.1 hc).1 (fun k => hr g rfl k.symm)).trans hc, rest⟩
theorem owns_lt {W : World} {base : Nat} {e : TypeId} {size n : Nat} {v : Value} {xs : List Value} (h : W.ownsRow base e size v n xs) : ∀ g, v.ownBlock = some g → base ≤ g ∧ g < W.heap.size := by
  intro g hg
  rcases h.2 with ⟨rfl, _⟩ | ⟨g', cap, cur, rfl, hb, hc, rest⟩
  · cases hg
  · cases hg
    exact ⟨hb, (Array.getElem?_eq_some_iff.1 hc).1⟩
theorem Oi.addr {W0 W : World} {ad : Option Addr} {n c : Nat} {L : List Int} (h : Oi W0 (.slice ad n c) L W) (h0 : 0 < L.length) : ∃ g, ad = some ⟨g, 0, none⟩ := by
  rcases h.own.2 with ⟨e, hn⟩ | ⟨g, cap, cur, e, -, -, -⟩
  · omega
  · cases e
    exact ⟨g, rfl⟩
theorem Oi.addr' {W0 W : World} {ad : Option Addr} {n c g' : Nat} {L : List Int} (h : Oi W0 (.slice ad n c) L W) (e : (Value.slice ad n c).ownBlock = some g') : ad = some ⟨g', 0, none⟩ := by
  rcases h.own.2 with ⟨e1, hn⟩ | ⟨g, cap, cur, e1, -, -, -⟩
  · cases e1; cases e
  · cases e1; cases e; rfl
/-- a number written into one row leaves another one -/
theorem oi_store2 {W0 W : World} {g n cap : Nat} {L L' : List Int} {v : Value} (h : Oi W0 (.slice (some ⟨g, 0, none⟩) n cap) L W) (hn : n = L.length) (j : Nat) (x : Int) (k : Oi W0 v L' W) (hne : ∀ g', v.ownBlock = some g' → g' ≠ g) : Oi W0 v L' (W.setCell ⟨g, j, none⟩ (.int .i64 x)) := by
  subst hn
  have hs := h.own.stored j (.int .i64 x)
  exact ⟨owns_kept k.own hs.2 (fun g' e e' => hne g' e (by cases e'; rfl)), k.hb.grown hs.2 k.sz (fun q e => by cases e; exact (h.own.lt g rfl).1), Nat.le_trans k.sz hs.2.size⟩

set_option maxHeartbeats 8000000 in
set_option maxRecDepth 100000 in
theorem keepsfalse_l (w : World) (A : List Int) (ada : Option Addr) (capa : Nat) (_ : A.length ≤ capa) (hA : IntRow w ada A) (hna : ada = none → capa = 0)
    (B : List Int) (adb : Option Addr) (capb : Nat) (hcb : B.length ≤ capb) (hB : IntRow w adb B) (hnb : adb = none → capb = 0) (h1 : A.length ≤ 100) (h2 : B.length ≤ 100) :
    Calls Try.prog 6 #[.slice ada A.length capa, .slice adb B.length capb, .bool false] w (Gives (.bool true) w) := by
  have K := Lib.hid (fun W => known_l W)
  go_enter Try.func6, Try.ntmps6
  have b1 : ((100 : Int) < (A.length : Int)) = False := eq_false (by omega)
  have b2 : ((100 : Int) < (B.length : Int)) = False := eq_false (by omega)
  have HA0 := Lib.hid hA
  have HB0 := Lib.hid hB
  have HNA := Lib.hid hna
  have HNB := Lib.hid hnb
  clear hA hB hna hnb
  go_wp2_with (at_builtin; refine app_ints rfl _ _ rfl rfl (oi_nil w) rfl (L := A) rfl HA0.out HNA.out ?x1 ?_)
  case x1 => simp; omega
  intro v8 w1 hO8
  have HW1 := Lib.hid hO8.hb
  obtain ⟨ad8, cp8, rfl, hcp8, hI, hn⟩ := (hO8.congr (List.nil_append A)).slice
  have HI8 := Lib.hid hI
  have HN8 := Lib.hid hn
  clear hI hn hO8
  have HQ := Lib.hid (mergeI_l 23 #[] ltD (fun _ => True) A B ad8 adb cp8 capb w1 (fun _ _ => rfl) (ask_digits w1) (fun _ _ => trivial) (fun _ _ => trivial) HI8.out (HB0.out.below HW1.out) hcp8 hcb HN8.out HNB.out (by omega))
  have hml : (mrgW ltD A B).length = A.length + B.length := mrgW_len _ _ _
  have hmc : ∀ x, cnt (mrgW ltD A B) x = cnt A x + cnt B x := fun x => cnt_mrg _ _ _ _
  obtain ⟨M, hM⟩ : ∃ M, mrgW ltD A B = M := ⟨_, rfl⟩
  rw [hM] at HQ hml hmc
  have HML := Lib.hid hml
  have HMC := Lib.hid hmc
  clear hM hml hmc
  go_wp2_with fail
  (with_reducible refine HQ.out.mono ?_); rintro e w2 ⟨v9, rfl, hO9⟩
  have HW2 := Lib.hid hO9.hb
  obtain ⟨ad9, cp9, rfl, hcp9, hI, hn⟩ := hO9.slice
  have HI9 := Lib.hid hI
  have HO9 := Lib.hid hO9
  clear hI hn hO9 HQ
  have HQ := Lib.hid (sortI_l 23 #[] ltD (fun _ => True) (fun _ _ => rfl) A ad8 cp8 w2 A.length (ask_digits w2) (fun _ _ => trivial) (HI8.out.below HW2.out) rfl hcp8 HN8.out (by omega))
  have hsl : (msort ltD A).length = A.length := msort_len _ _
  have hsc : ∀ x, cnt (msort ltD A) x = cnt A x := fun x => cnt_srt _ _ _
  have hss : msort ltD (msort ltD A) = msort ltD A := msort_twice _
  obtain ⟨S, hS⟩ : ∃ S, msort ltD A = S := ⟨_, rfl⟩
  rw [hS] at HQ hsl hsc hss
  have HSL := Lib.hid hsl
  have HSC := Lib.hid hsc
  have HSS := Lib.hid hss
  clear hss
  clear hS hsl hsc
  go_wp2_with fail
  (with_reducible refine HQ.out.mono ?_); rintro e w3 ⟨v10, rfl, hO10⟩
  have HW3 := Lib.hid hO10.hb
  obtain ⟨ad10, cp10, rfl, hcp10, hI, hn⟩ := hO10.slice
  have HI10 := Lib.hid hI
  have HN10 := Lib.hid hn
  have HNE : Hid (∀ g g', ad9 = some ⟨g, 0, none⟩ → ad10 = some ⟨g', 0, none⟩ → g' ≠ g) := by
    intro g g' e e'
    subst e e'
    have a1 := (owns_lt HO9.out.own g rfl).2
    have a2 := (owns_lt hO10.own g' rfl).1
    omega
  have HO10 := Lib.hid (hO10.base HW2.out)
  replace HO9 := Lib.hid (HO9.out.below HW3.out)
  replace HI9 := Lib.hid (HI9.out.below HW3.out)
  have HI8b := HI8
  have HA1 := Lib.hid (HA0.out.below HW1.out)
  have HBW := Lib.hid (bl_trans (bl_trans HW1.out HW2.out) HW3.out)
  have HA3 := Lib.hid (HA0.out.below HBW.out)
  have HB3 := Lib.hid (HB0.out.below HBW.out)
  have HW13 := Lib.hid (bl_trans HW2.out HW3.out)
  clear hI hn hO10 HQ HW2 HW3 HI8 HA0 HB0
  have b3 : ((M.length : Int) == (A.length : Int) + (B.length : Int)) = true := beq_iff_eq.mpr (by have := HML.out; omega)
  have b3' : ((M.length : Int) != (A.length : Int) + (B.length : Int)) = false := by simpa using (by have := HML.out; omega : (M.length : Int) = (A.length : Int) + (B.length : Int))
  have b4 : ((S.length : Int) == (A.length : Int)) = true := beq_iff_eq.mpr (by have := HSL.out; omega)
  have b4' : ((S.length : Int) != (A.length : Int)) = false := by simpa using (by have := HSL.out; omega : (S.length : Int) = (A.length : Int))
  go_wp2_with fail
  clear b3 b3' b4 b4'
  go_loopw [11] (fun iv W => ∃ k : Nat, k ≤ A.length ∧ iv = .int .i64 k ∧ Below w3.heap.size w3 W) (fun iv _ => A.length - (intOf iv).toNat)
  case atStart => exact ⟨0, Nat.zero_le _, rfl, Below.refl _ _⟩
  case round =>
    obtain ⟨k, hk, rfl, hW⟩ := hrel
    have HW := Lib.hid hW
    clear hW
    by_cases hil : k < A.length
    · have b5 : ((k : Int) < (A.length : Int)) = True := eq_true (by omega)
      have b5' : (k < A.length) = True := eq_true hil
      obtain ⟨x, hx⟩ : ∃ x, A[k] = x := ⟨_, rfl⟩
      obtain ⟨g1, o1, rfl⟩ := HA3.out.some (by omega)
      have HX := Lib.hid hx
      have HA := Lib.hid (HA3.out.below HW.out)
      have n1 := HMC.out x
      have n2 := HSC.out x
      have n3 := cnt_le A x
      have n4 := cnt_le B x
      have HC1 := Lib.hid (fun W (h : Below wr.heap.size wr W) => count_l M x ad9 cp9 M.length W ((HI9.out.below HW.out).below h) rfl (by have := HML.out; omega))
      have HC2 := Lib.hid (fun W (h : Below wr.heap.size wr W) => count_l A x _ capa A.length W (HA.out.below h) rfl (by omega))
      have HC3 := Lib.hid (fun W (h : Below wr.heap.size wr W) => count_l B x adb capb B.length W ((HB3.out.below HW.out).below h) rfl (by omega))
      have HC4 := Lib.hid (fun W (h : Below wr.heap.size wr W) => count_l S x ad10 cp10 S.length W ((HI10.out.below HW.out).below h) rfl (by have := HSL.out; omega))
      rw [n2] at HC4
      generalize cnt M x = cm at *
      generalize cnt A x = ca at *
      generalize cnt B x = cb at *
      have S1 : Hid (wrap64 ((ca : Int) + (cb : Int)) = (cm : Int)) := by unfold Hid wrap64; omega
      have S2 : Hid (IntKind.i64.wrap ((ca : Int) + (cb : Int)) = (cm : Int)) := (IntWalk.i64_in _ (by omega)).trans (by omega)
      clear hx n1 n2 n3 n4
      go_wp2_with fail
      refine wp_region_held_drew (S := fun V => Below wr.heap.size wr V) (by kernel_rfl) ?_ (fun hHeld => ?_)
      · exact bel_drew wr
      revert hHeld
      generalize World.drew _ = W1
      intro hHeld 
      refine wpAnyH_take (i := 0) (v := ?_) rfl (by kernel_rfl) (by kernel_rfl) (by kernel_rfl) (fun _ _ _ h => h) (Or.inl ⟨by rfl, ?_⟩) (by assumption) ?_
      rotate_left
      · intro Wq hSw
        clear hSw
        go_simp
        all_goals (with_reducible rfl)
      try simp only [Act.put, List.getElem_toArray, List.getElem_cons_zero, List.setIfInBounds_toArray, List.set_cons_zero, List.set_cons_succ]
      refine wpAnyH_take (i := 1) (v := ?_) rfl (by kernel_rfl) (by kernel_rfl) (by kernel_rfl) (fun _ _ _ h => h) (Or.inl ⟨by rfl, ?_⟩) (by assumption) ?_
      rotate_left
      · intro Wq hSw
        clear hSw
        go_simp
        all_goals (with_reducible rfl)
      try simp only [Act.put, List.getElem_toArray, List.getElem_cons_succ, List.getElem_cons_zero, List.setIfInBounds_toArray, List.set_cons_zero, List.set_cons_succ]
      refine wpAnyH_take (i := 2) (v := ?_) rfl (by kernel_rfl) (by kernel_rfl) (by kernel_rfl) (fun _ _ _ h => h) (Or.inl ⟨by rfl, ?_⟩) (by assumption) ?_
      rotate_left
      · intro Wq hSw
        clear hSw
        go_simp
        all_goals (with_reducible rfl)
      try simp only [Act.put, List.getElem_toArray, List.getElem_cons_succ, List.getElem_cons_zero, List.setIfInBounds_toArray, List.set_cons_zero, List.set_cons_succ]
      refine wpAnyH_take (i := 3) (v := ?_) rfl (by kernel_rfl) (by kernel_rfl) (by kernel_rfl) (fun _ _ _ h => h) (Or.inl ⟨by rfl, ?_⟩) (by assumption) ?_
      rotate_left
      · intro Wq hSw
        have b1 : ((k : Int) < (A.length : Int)) = True := eq_true (by omega)
        have d1 : (k < A.length) = True := eq_true (by omega)
        have c1 : ((0 : Int) ≤ (k : Int)) = True := eq_true (by omega)
        clear hSw
        go_simp
        all_goals (with_reducible rfl)
      try simp only [Act.put, List.getElem_toArray, List.getElem_cons_succ, List.getElem_cons_zero, List.setIfInBounds_toArray, List.set_cons_zero, List.set_cons_succ]
      refine wpAnyH_take (i := 4) (v := ?_) rfl (by kernel_rfl) (by kernel_rfl) (by kernel_rfl) (fun _ _ _ h => h) (Or.inl ⟨by rfl, ?_⟩) (by assumption) ?_
      rotate_left
      · intro Wq hSw
        have k0 := intRow_at (HA.out.below hSw) hil HX.out
        clear hSw
        go_simp
        all_goals (with_reducible rfl)
      try simp only [Act.put, List.getElem_toArray, List.getElem_cons_succ, List.getElem_cons_zero, List.setIfInBounds_toArray, List.set_cons_zero, List.set_cons_succ]
      refine wpAnyH_take (i := 6) (v := ?_) rfl (by kernel_rfl) (by kernel_rfl) (by kernel_rfl) (fun _ _ _ h => h) (Or.inl ⟨by rfl, ?_⟩) (by assumption) ?_
      rotate_left
      · intro Wq hSw
        clear hSw
        go_simp
        all_goals (with_reducible rfl)
      try simp only [Act.put, List.getElem_toArray, List.getElem_cons_succ, List.getElem_cons_zero, List.setIfInBounds_toArray, List.set_cons_zero, List.set_cons_succ]
      refine wpAnyH_take (i := 7) (v := ?_) rfl (by kernel_rfl) (by kernel_rfl) (by kernel_rfl) (fun _ _ _ h => h) (Or.inl ⟨by rfl, ?_⟩) (by assumption) ?_
      rotate_left
      · intro Wq hSw
        clear hSw
        go_simp
        all_goals (with_reducible rfl)
      try simp only [Act.put, List.getElem_toArray, List.getElem_cons_succ, List.getElem_cons_zero, List.setIfInBounds_toArray, List.set_cons_zero, List.set_cons_succ]
      refine wpAnyH_take (i := 8) (v := ?_) rfl (by kernel_rfl) (by kernel_rfl) (by kernel_rfl) (fun _ _ _ h => h) (Or.inl ⟨by rfl, ?_⟩) (by assumption) ?_
      rotate_left
      · intro Wq hSw
        clear hSw
        go_simp
        all_goals (with_reducible rfl)
      try simp only [Act.put, List.getElem_toArray, List.getElem_cons_succ, List.getElem_cons_zero, List.setIfInBounds_toArray, List.set_cons_zero, List.set_cons_succ]
      refine wpAnyH_take (i := 9) (v := ?_) rfl (by kernel_rfl) (by kernel_rfl) (by kernel_rfl) (fun _ _ _ h => h) (Or.inl ⟨by rfl, ?_⟩) (by assumption) ?_
      rotate_left
      · intro Wq hSw
        have b1 : ((k : Int) < (A.length : Int)) = True := eq_true (by omega)
        have d1 : (k < A.length) = True := eq_true (by omega)
        have c1 : ((0 : Int) ≤ (k : Int)) = True := eq_true (by omega)
        clear hSw
        go_simp
        all_goals (with_reducible rfl)
      try simp only [Act.put, List.getElem_toArray, List.getElem_cons_succ, List.getElem_cons_zero, List.setIfInBounds_toArray, List.set_cons_zero, List.set_cons_succ]
      refine wpAnyH_take (i := 10) (v := ?_) rfl (by kernel_rfl) (by kernel_rfl) (by kernel_rfl) (fun _ _ _ h => h) (Or.inl ⟨by rfl, ?_⟩) (by assumption) ?_
      rotate_left
      · intro Wq hSw
        have k0 := intRow_at (HA.out.below hSw) hil HX.out
        clear hSw
        go_simp
        all_goals (with_reducible rfl)
      try simp only [Act.put, List.getElem_toArray, List.getElem_cons_succ, List.getElem_cons_zero, List.setIfInBounds_toArray, List.set_cons_zero, List.set_cons_succ]
      refine wpAnyH_take (i := 12) (v := ?_) rfl (by kernel_rfl) (by kernel_rfl) (by kernel_rfl) (fun _ _ _ h => h) (Or.inl ⟨by rfl, ?_⟩) (by assumption) ?_
      rotate_left
      · intro Wq hSw
        clear hSw
        go_simp
        all_goals (with_reducible rfl)
      try simp only [Act.put, List.getElem_toArray, List.getElem_cons_succ, List.getElem_cons_zero, List.setIfInBounds_toArray, List.set_cons_zero, List.set_cons_succ]
      refine wpAnyH_take (i := 13) (v := ?_) rfl (by kernel_rfl) (by kernel_rfl) (by kernel_rfl) (fun _ _ _ h => h) (Or.inl ⟨by rfl, ?_⟩) (by assumption) ?_
      rotate_left
      · intro Wq hSw
        clear hSw
        go_simp
        all_goals (with_reducible rfl)
      try simp only [Act.put, List.getElem_toArray, List.getElem_cons_succ, List.getElem_cons_zero, List.setIfInBounds_toArray, List.set_cons_zero, List.set_cons_succ]
      refine wpAnyH_take (i := 14) (v := ?_) rfl (by kernel_rfl) (by kernel_rfl) (by kernel_rfl) (fun _ _ _ h => h) (Or.inl ⟨by rfl, ?_⟩) (by assumption) ?_
      rotate_left
      · intro Wq hSw
        clear hSw
        go_simp
        all_goals (with_reducible rfl)
      try simp only [Act.put, List.getElem_toArray, List.getElem_cons_succ, List.getElem_cons_zero, List.setIfInBounds_toArray, List.set_cons_zero, List.set_cons_succ]
      refine wpAnyH_take (i := 15) (v := ?_) rfl (by kernel_rfl) (by kernel_rfl) (by kernel_rfl) (fun _ _ _ h => h) (Or.inl ⟨by rfl, ?_⟩) (by assumption) ?_
      rotate_left
      · intro Wq hSw
        have b1 : ((k : Int) < (A.length : Int)) = True := eq_true (by omega)
        have d1 : (k < A.length) = True := eq_true (by omega)
        have c1 : ((0 : Int) ≤ (k : Int)) = True := eq_true (by omega)
        clear hSw
        go_simp
        all_goals (with_reducible rfl)
      try simp only [Act.put, List.getElem_toArray, List.getElem_cons_succ, List.getElem_cons_zero, List.setIfInBounds_toArray, List.set_cons_zero, List.set_cons_succ]
      refine wpAnyH_take (i := 16) (v := ?_) rfl (by kernel_rfl) (by kernel_rfl) (by kernel_rfl) (fun _ _ _ h => h) (Or.inl ⟨by rfl, ?_⟩) (by assumption) ?_
      rotate_left
      · intro Wq hSw
        have k0 := intRow_at (HA.out.below hSw) hil HX.out
        clear hSw
        go_simp
        all_goals (with_reducible rfl)
      try simp only [Act.put, List.getElem_toArray, List.getElem_cons_succ, List.getElem_cons_zero, List.setIfInBounds_toArray, List.set_cons_zero, List.set_cons_succ]
      refine r1 (i := 5) rfl (fun K hK => ?_)
      go_simp
      (with_reducible refine (HC1.out _ hHeld).mono ?_)
      rintro e w1 ⟨rfl, hb1⟩
      go_wp2_with fail
      refine hK.out _ _ (bl_trans hHeld hb1) (fun hHeld2 => ?_)
      clear hK K hHeld
      have hHeld := hHeld2
      clear hHeld2
      try simp only [Act.put, List.getElem_toArray, List.getElem_cons_succ, List.getElem_cons_zero, List.setIfInBounds_toArray, List.set_cons_zero, List.set_cons_succ]
      refine r1 (i := 11) rfl (fun K hK => ?_)
      go_simp
      (with_reducible refine (HC2.out _ hHeld).mono ?_)
      rintro e w1 ⟨rfl, hb1⟩
      go_wp2_with fail
      refine hK.out _ _ (bl_trans hHeld hb1) (fun hHeld2 => ?_)
      clear hK K hHeld
      have hHeld := hHeld2
      clear hHeld2
      try simp only [Act.put, List.getElem_toArray, List.getElem_cons_succ, List.getElem_cons_zero, List.setIfInBounds_toArray, List.set_cons_zero, List.set_cons_succ]
      refine r1 (i := 17) rfl (fun K hK => ?_)
      go_simp
      (with_reducible refine (HC3.out _ hHeld).mono ?_)
      rintro e w1 ⟨rfl, hb1⟩
      go_wp2_with fail
      refine hK.out _ _ (bl_trans hHeld hb1) (fun hHeld2 => ?_)
      clear hK K hHeld
      have hHeld := hHeld2
      clear hHeld2
      try simp only [Act.put, List.getElem_toArray, List.getElem_cons_succ, List.getElem_cons_zero, List.setIfInBounds_toArray, List.set_cons_zero, List.set_cons_succ]
      refine wpAnyH_take (i := 18) (v := ?_) rfl (by kernel_rfl) (by kernel_rfl) (by kernel_rfl) (fun _ _ _ h => h) (Or.inl ⟨by rfl, ?_⟩) (by assumption) ?_
      rotate_left
      · intro Wq hSw
        have s1 := S1.out
        have s2 := S2.out
        clear hSw
        go_simp
        all_goals (with_reducible rfl)
      try simp only [Act.put, List.getElem_toArray, List.getElem_cons_succ, List.getElem_cons_zero, List.setIfInBounds_toArray, List.set_cons_zero, List.set_cons_succ]
      refine wpAnyH_take (i := 19) (v := ?_) rfl (by kernel_rfl) (by kernel_rfl) (by kernel_rfl) (fun _ _ _ h => h) (Or.inl ⟨by rfl, ?_⟩) (by assumption) ?_
      rotate_left
      · intro Wq hSw
        clear hSw
        go_simp
        all_goals (with_reducible rfl)
      try simp only [Act.put, List.getElem_toArray, List.getElem_cons_succ, List.getElem_cons_zero, List.setIfInBounds_toArray, List.set_cons_zero, List.set_cons_succ]
      refine wpAnyH_take (i := 20) (v := ?_) rfl (by kernel_rfl) (by kernel_rfl) (by kernel_rfl) (fun _ _ _ h => h) (Or.inl ⟨by rfl, ?_⟩) (by assumption) ?_
      rotate_left
      · intro Wq hSw
        clear hSw
        go_simp
        all_goals (with_reducible rfl)
      try simp only [Act.put, List.getElem_toArray, List.getElem_cons_succ, List.getElem_cons_zero, List.setIfInBounds_toArray, List.set_cons_zero, List.set_cons_succ]
      refine wpAnyH_take (i := 21) (v := ?_) rfl (by kernel_rfl) (by kernel_rfl) (by kernel_rfl) (fun _ _ _ h => h) (Or.inl ⟨by rfl, ?_⟩) (by assumption) ?_
      rotate_left
      · intro Wq hSw
        clear hSw
        go_simp
        all_goals (with_reducible rfl)
      try simp only [Act.put, List.getElem_toArray, List.getElem_cons_succ, List.getElem_cons_zero, List.setIfInBounds_toArray, List.set_cons_zero, List.set_cons_succ]
      refine wpAnyH_take (i := 22) (v := ?_) rfl (by kernel_rfl) (by kernel_rfl) (by kernel_rfl) (fun _ _ _ h => h) (Or.inl ⟨by rfl, ?_⟩) (by assumption) ?_
      rotate_left
      · intro Wq hSw
        clear hSw
        go_simp
        all_goals (with_reducible rfl)
      try simp only [Act.put, List.getElem_toArray, List.getElem_cons_succ, List.getElem_cons_zero, List.setIfInBounds_toArray, List.set_cons_zero, List.set_cons_succ]
      refine wpAnyH_take (i := 23) (v := ?_) rfl (by kernel_rfl) (by kernel_rfl) (by kernel_rfl) (fun _ _ _ h => h) (Or.inl ⟨by rfl, ?_⟩) (by assumption) ?_
      rotate_left
      · intro Wq hSw
        clear hSw
        go_simp
        all_goals (with_reducible rfl)
      try simp only [Act.put, List.getElem_toArray, List.getElem_cons_succ, List.getElem_cons_zero, List.setIfInBounds_toArray, List.set_cons_zero, List.set_cons_succ]
      refine wpAnyH_take (i := 24) (v := ?_) rfl (by kernel_rfl) (by kernel_rfl) (by kernel_rfl) (fun _ _ _ h => h) (Or.inl ⟨by rfl, ?_⟩) (by assumption) ?_
      rotate_left
      · intro Wq hSw
        have b1 : ((k : Int) < (A.length : Int)) = True := eq_true (by omega)
        have d1 : (k < A.length) = True := eq_true (by omega)
        have c1 : ((0 : Int) ≤ (k : Int)) = True := eq_true (by omega)
        clear hSw
        go_simp
        all_goals (with_reducible rfl)
      try simp only [Act.put, List.getElem_toArray, List.getElem_cons_succ, List.getElem_cons_zero, List.setIfInBounds_toArray, List.set_cons_zero, List.set_cons_succ]
      refine wpAnyH_take (i := 25) (v := ?_) rfl (by kernel_rfl) (by kernel_rfl) (by kernel_rfl) (fun _ _ _ h => h) (Or.inl ⟨by rfl, ?_⟩) (by assumption) ?_
      rotate_left
      · intro Wq hSw
        have k0 := intRow_at (HA.out.below hSw) hil HX.out
        clear hSw
        go_simp
        all_goals (with_reducible rfl)
      try simp only [Act.put, List.getElem_toArray, List.getElem_cons_succ, List.getElem_cons_zero, List.setIfInBounds_toArray, List.set_cons_zero, List.set_cons_succ]
      refine wpAnyH_take (i := 27) (v := ?_) rfl (by kernel_rfl) (by kernel_rfl) (by kernel_rfl) (fun _ _ _ h => h) (Or.inl ⟨by rfl, ?_⟩) (by assumption) ?_
      rotate_left
      · intro Wq hSw
        clear hSw
        go_simp
        all_goals (with_reducible rfl)
      try simp only [Act.put, List.getElem_toArray, List.getElem_cons_succ, List.getElem_cons_zero, List.setIfInBounds_toArray, List.set_cons_zero, List.set_cons_succ]
      refine wpAnyH_take (i := 28) (v := ?_) rfl (by kernel_rfl) (by kernel_rfl) (by kernel_rfl) (fun _ _ _ h => h) (Or.inl ⟨by rfl, ?_⟩) (by assumption) ?_
      rotate_left
      · intro Wq hSw
        clear hSw
        go_simp
        all_goals (with_reducible rfl)
      try simp only [Act.put, List.getElem_toArray, List.getElem_cons_succ, List.getElem_cons_zero, List.setIfInBounds_toArray, List.set_cons_zero, List.set_cons_succ]
      refine wpAnyH_take (i := 29) (v := ?_) rfl (by kernel_rfl) (by kernel_rfl) (by kernel_rfl) (fun _ _ _ h => h) (Or.inl ⟨by rfl, ?_⟩) (by assumption) ?_
      rotate_left
      · intro Wq hSw
        clear hSw
        go_simp
        all_goals (with_reducible rfl)
      try simp only [Act.put, List.getElem_toArray, List.getElem_cons_succ, List.getElem_cons_zero, List.setIfInBounds_toArray, List.set_cons_zero, List.set_cons_succ]
      refine wpAnyH_take (i := 30) (v := ?_) rfl (by kernel_rfl) (by kernel_rfl) (by kernel_rfl) (fun _ _ _ h => h) (Or.inl ⟨by rfl, ?_⟩) (by assumption) ?_
      rotate_left
      · intro Wq hSw
        have b1 : ((k : Int) < (A.length : Int)) = True := eq_true (by omega)
        have d1 : (k < A.length) = True := eq_true (by omega)
        have c1 : ((0 : Int) ≤ (k : Int)) = True := eq_true (by omega)
        clear hSw
        go_simp
        all_goals (with_reducible rfl)
      try simp only [Act.put, List.getElem_toArray, List.getElem_cons_succ, List.getElem_cons_zero, List.setIfInBounds_toArray, List.set_cons_zero, List.set_cons_succ]
      refine wpAnyH_take (i := 31) (v := ?_) rfl (by kernel_rfl) (by kernel_rfl) (by kernel_rfl) (fun _ _ _ h => h) (Or.inl ⟨by rfl, ?_⟩) (by assumption) ?_
      rotate_left
      · intro Wq hSw
        have k0 := intRow_at (HA.out.below hSw) hil HX.out
        clear hSw
        go_simp
        all_goals (with_reducible rfl)
      try simp only [Act.put, List.getElem_toArray, List.getElem_cons_succ, List.getElem_cons_zero, List.setIfInBounds_toArray, List.set_cons_zero, List.set_cons_succ]
      refine r1 (i := 26) rfl (fun K hK => ?_)
      go_simp
      (with_reducible refine (HC4.out _ hHeld).mono ?_)
      rintro e w1 ⟨rfl, hb1⟩
      go_wp2_with fail
      refine hK.out _ _ (bl_trans hHeld hb1) (fun hHeld2 => ?_)
      clear hK K hHeld
      have hHeld := hHeld2
      clear hHeld2
      try simp only [Act.put, List.getElem_toArray, List.getElem_cons_succ, List.getElem_cons_zero, List.setIfInBounds_toArray, List.set_cons_zero, List.set_cons_succ]
      refine r1 (i := 32) rfl (fun K hK => ?_)
      go_simp
      (with_reducible refine (HC2.out _ hHeld).mono ?_)
      rintro e w1 ⟨rfl, hb1⟩
      go_wp2_with fail
      refine hK.out _ _ (bl_trans hHeld hb1) (fun hHeld2 => ?_)
      clear hK K hHeld
      have hHeld := hHeld2
      clear hHeld2
      try simp only [Act.put, List.getElem_toArray, List.getElem_cons_succ, List.getElem_cons_zero, List.setIfInBounds_toArray, List.set_cons_zero, List.set_cons_succ]
      refine wpAnyH_take (i := 33) (v := ?_) rfl (by kernel_rfl) (by kernel_rfl) (by kernel_rfl) (fun _ _ _ h => h) (Or.inl ⟨by rfl, ?_⟩) (by assumption) ?_
      rotate_left
      · intro Wq hSw
        clear hSw
        go_simp
        all_goals (with_reducible rfl)
      try simp only [Act.put, List.getElem_toArray, List.getElem_cons_succ, List.getElem_cons_zero, List.setIfInBounds_toArray, List.set_cons_zero, List.set_cons_succ]
      refine wpAnyH_take (i := 34) (v := ?_) rfl (by kernel_rfl) (by kernel_rfl) (by kernel_rfl) (fun _ _ _ h => h) (Or.inl ⟨by rfl, ?_⟩) (by assumption) ?_
      rotate_left
      · intro Wq hSw
        clear hSw
        go_simp
        all_goals (with_reducible rfl)
      try simp only [Act.put, List.getElem_toArray, List.getElem_cons_succ, List.getElem_cons_zero, List.setIfInBounds_toArray, List.set_cons_zero, List.set_cons_succ]
      refine wpAnyH_done (by kernel_rfl) ?_ _
      have HW2 := Lib.hid (bl_trans HW.out hHeld)
      clear HW hHeld
      obtain ⟨m1, m2, m3, m4⟩ := wnum (i := k) (by omega)
      go_wp2_with fail
      clear m1 m2 m3 m4
      exact ⟨⟨k + 1, hil, by rw [Int.natCast_add]; rfl, HW2.out⟩, by simp only [intOf]; omega⟩
    · obtain rfl : k = A.length := by omega
      have b5 : ((A.length : Int) < (A.length : Int)) = False := eq_false (by omega)
      have HQ5 := Lib.hid (sortI_l 23 #[] ltD (fun _ => True) (fun _ _ => rfl) S ad10 cp10 wr S.length (ask_digits wr) (fun _ _ => trivial) (HI10.out.below HW.out) rfl hcp10 HN10.out (by have := HSL.out; omega))
      rw [HSS.out] at HQ5
      go_wp2_with fail
      (with_reducible refine HQ5.out.mono ?_); rintro e w5 ⟨v5, rfl, hO5⟩
      have HB5 := Lib.hid hO5.hb
      obtain ⟨ad5, cp5, rfl, -, hI, -⟩ := hO5.slice
      have HS5 := Lib.hid (sameInts_l S S ad5 ad10 cp5 cp10 S.length S.length w5 hI ((HI10.out.below HW.out).below HB5.out) rfl rfl (by have := HSL.out; omega))
      rw [decide_eq_true (rfl : S = S)] at HS5
      clear hI hO5 HQ5
      go_wp2_with fail
      (with_reducible refine HS5.out.mono ?_); rintro e w6 ⟨rfl, hb1⟩
      replace HW := Lib.hid (bl_trans (bl_trans HW.out HB5.out) hb1)
      clear hb1 HS5 HB5
      have HO9a := Lib.hid (HO9.out.below HW.out)
      have HO10a := Lib.hid (HO10.out.below HW.out)
      go_wp2_with fail
      go_loopw [12] (fun iv W => ∃ (k : Nat) (M' : List Int), k ≤ M.length ∧ M'.length = M.length ∧ iv = .int .i64 k ∧ Oi w1 (.slice ad9 M.length cp9) M' W ∧ Oi w1 (.slice ad10 S.length cp10) S W) (fun iv _ => M.length - (intOf iv).toNat)
      case atStart => exact ⟨0, M, Nat.zero_le _, rfl, rfl, HO9a.out, HO10a.out⟩
      case round =>
        obtain ⟨k, M', hk, hML', rfl, hO9, hO10⟩ := hrel
        have HO9 := Lib.hid hO9
        have HO10 := Lib.hid hO10
        have HMM := Lib.hid hML'
        clear hO9 hO10 HO9a HO10a hML'
        by_cases hil : k < M.length
        · have b6 : ((k : Int) < (M.length : Int)) = True := eq_true (by omega)
          have b6' : (k < M.length) = True := eq_true hil
          have c6 : ((0 : Int) ≤ (k : Int)) = True := eq_true (by omega)
          obtain ⟨g9, rfl⟩ := HO9.out.addr (by have := HMM.out; omega)
          have f1 := HO9.out.frozen HMM.out.symm k
          have k1 := HO9.out.cell HMM.out.symm (j := k) (by have := HMM.out; omega)
          have HO9b := Lib.hid (HO9.out.store HMM.out.symm k (-7))
          have HO10b := Lib.hid (oi_store2 HO9.out HMM.out.symm k (-7) HO10.out (fun g' e => HNE.out g9 g' rfl (HO10.out.addr' e)))
          clear HO9 HO10
          obtain ⟨m1, m2, m3, m4⟩ := wnum (i := k) (by have := HML.out; omega)
          go_wp2_with fail
          clear m1 m2 m3 m4 f1 k1
          exact ⟨⟨k + 1, _, hil, by rw [List.length_set]; exact HMM.out, by rw [Int.natCast_add]; rfl, HO9b.out, HO10b.out⟩, by simp only [intOf]; omega⟩
        · obtain rfl : k = M.length := by omega
          have b6 : ((M.length : Int) < (M.length : Int)) = False := eq_false (by omega)
          clear HO9
          go_wp2_with fail
          go_loopw [13] (fun iv W => ∃ (k : Nat) (S' : List Int), k ≤ S.length ∧ S'.length = S.length ∧ iv = .int .i64 k ∧ Oi w1 (.slice ad10 S.length cp10) S' W) (fun iv _ => S.length - (intOf iv).toNat)
          case atStart => exact ⟨0, S, Nat.zero_le _, rfl, rfl, HO10.out⟩
          case round =>
            obtain ⟨k, S', hk, hSL', rfl, hO10⟩ := hrel
            clear HO10
            have HO10 := Lib.hid hO10
            have HMM2 := Lib.hid hSL'
            clear hO10 hSL'
            by_cases hil : k < S.length
            · have b7 : ((k : Int) < (S.length : Int)) = True := eq_true (by omega)
              have b7' : (k < S.length) = True := eq_true hil
              have c7 : ((0 : Int) ≤ (k : Int)) = True := eq_true (by omega)
              obtain ⟨g10, rfl⟩ := HO10.out.addr (by have := HMM2.out; omega)
              have f1 := HO10.out.frozen HMM2.out.symm k
              have k1 := HO10.out.cell HMM2.out.symm (j := k) (by have := HMM2.out; omega)
              have HO10b := Lib.hid (HO10.out.store HMM2.out.symm k (-7))
              clear HO10
              obtain ⟨m1, m2, m3, m4⟩ := wnum (i := k) (by have := HSL.out; omega)
              go_wp2_with fail
              clear m1 m2 m3 m4 f1 k1
              exact ⟨⟨k + 1, _, hil, by rw [List.length_set]; exact HMM2.out, by rw [Int.natCast_add]; rfl, HO10b.out⟩, by simp only [intOf]; omega⟩
            · obtain rfl : k = S.length := by omega
              have b7 : ((S.length : Int) < (S.length : Int)) = False := eq_false (by omega)
              have HBE := Lib.hid HO10.out.hb
              have HS := Lib.hid (sameInts_l A A ad8 ada cp8 capa A.length A.length _ (HI8b.out.below HBE.out) ((HA1.out).below HBE.out) rfl rfl (by omega))
              rw [decide_eq_true (rfl : A = A)] at HS
              replace HBE := Lib.hid (bl_trans HW1.out HBE.out)
              go_wp2_with fail
              (with_reducible refine HS.out.mono ?_); rintro e w7 ⟨rfl, hb1⟩
              replace HBE := Lib.hid (bl_trans HBE.out hb1)
              clear hb1 HS
              go_wp2_with fail
              (with_reducible refine (K.out _).mono ?_); rintro e w8 ⟨rfl, hb1⟩
              replace HBE := Lib.hid (bl_trans HBE.out hb1)
              clear hb1
              go_wp2
              go_ret
              exact ⟨rfl, HBE.out⟩

set_option maxHeartbeats 8000000 in
set_option maxRecDepth 100000 in
theorem keepstrue_l (w : World) (A : List Int) (ada : Option Addr) (capa : Nat) (_ : A.length ≤ capa) (hA : IntRow w ada A) (hna : ada = none → capa = 0)
    (B : List Int) (adb : Option Addr) (capb : Nat) (hcb : B.length ≤ capb) (hB : IntRow w adb B) (hnb : adb = none → capb = 0) (h1 : A.length ≤ 100) (h2 : B.length ≤ 100) :
    Calls Try.prog 6 #[.slice ada A.length capa, .slice adb B.length capb, .bool true] w (Gives (.bool true) w) := by
  have K := Lib.hid (fun W => known_l W)
  go_enter Try.func6, Try.ntmps6
  have b1 : ((100 : Int) < (A.length : Int)) = False := eq_false (by omega)
  have b2 : ((100 : Int) < (B.length : Int)) = False := eq_false (by omega)
  have HA0 := Lib.hid hA
  have HB0 := Lib.hid hB
  have HNA := Lib.hid hna
  have HNB := Lib.hid hnb
  clear hA hB hna hnb
  go_wp2_with (at_builtin; refine app_ints rfl _ _ rfl rfl (oi_nil w) rfl (L := A) rfl HA0.out HNA.out ?x1 ?_)
  case x1 => simp; omega
  intro v8 w1 hO8
  have HW1 := Lib.hid hO8.hb
  obtain ⟨ad8, cp8, rfl, hcp8, hI, hn⟩ := (hO8.congr (List.nil_append A)).slice
  have HI8 := Lib.hid hI
  have HN8 := Lib.hid hn
  clear hI hn hO8
  have HQ := Lib.hid (mergeI_l 27 #[] allD (fun _ => True) A B ad8 adb cp8 capb w1 (fun _ _ => rfl) (ask_always w1) (fun _ _ => trivial) (fun _ _ => trivial) HI8.out (HB0.out.below HW1.out) hcp8 hcb HN8.out HNB.out (by omega))
  have hml : (mrgW allD A B).length = A.length + B.length := mrgW_len _ _ _
  have hmc : ∀ x, cnt (mrgW allD A B) x = cnt A x + cnt B x := fun x => cnt_mrg _ _ _ _
  obtain ⟨M, hM⟩ : ∃ M, mrgW allD A B = M := ⟨_, rfl⟩
  rw [hM] at HQ hml hmc
  have HML := Lib.hid hml
  have HMC := Lib.hid hmc
  clear hM hml hmc
  go_wp2_with fail
  (with_reducible refine HQ.out.mono ?_); rintro e w2 ⟨v9, rfl, hO9⟩
  have HW2 := Lib.hid hO9.hb
  obtain ⟨ad9, cp9, rfl, hcp9, hI, hn⟩ := hO9.slice
  have HI9 := Lib.hid hI
  have HO9 := Lib.hid hO9
  clear hI hn hO9 HQ
  have HQ := Lib.hid (sortI_l 27 #[] allD (fun _ => True) (fun _ _ => rfl) A ad8 cp8 w2 A.length (ask_always w2) (fun _ _ => trivial) (HI8.out.below HW2.out) rfl hcp8 HN8.out (by omega))
  have hsl : (msort allD A).length = A.length := msort_len _ _
  have hsc : ∀ x, cnt (msort allD A) x = cnt A x := fun x => cnt_srt _ _ _
  obtain ⟨S, hS⟩ : ∃ S, msort allD A = S := ⟨_, rfl⟩
  rw [hS] at HQ hsl hsc
  have HSL := Lib.hid hsl
  have HSC := Lib.hid hsc
  clear hS hsl hsc
  go_wp2_with fail
  (with_reducible refine HQ.out.mono ?_); rintro e w3 ⟨v10, rfl, hO10⟩
  have HW3 := Lib.hid hO10.hb
  obtain ⟨ad10, cp10, rfl, hcp10, hI, hn⟩ := hO10.slice
  have HI10 := Lib.hid hI
  have HN10 := Lib.hid hn
  have HNE : Hid (∀ g g', ad9 = some ⟨g, 0, none⟩ → ad10 = some ⟨g', 0, none⟩ → g' ≠ g) := by
    intro g g' e e'
    subst e e'
    have a1 := (owns_lt HO9.out.own g rfl).2
    have a2 := (owns_lt hO10.own g' rfl).1
    omega
  have HO10 := Lib.hid (hO10.base HW2.out)
  replace HO9 := Lib.hid (HO9.out.below HW3.out)
  replace HI9 := Lib.hid (HI9.out.below HW3.out)
  have HI8b := HI8
  have HA1 := Lib.hid (HA0.out.below HW1.out)
  have HBW := Lib.hid (bl_trans (bl_trans HW1.out HW2.out) HW3.out)
  have HA3 := Lib.hid (HA0.out.below HBW.out)
  have HB3 := Lib.hid (HB0.out.below HBW.out)
  have HW13 := Lib.hid (bl_trans HW2.out HW3.out)
  clear hI hn hO10 HQ HW2 HW3 HI8 HA0 HB0
  have b3 : ((M.length : Int) == (A.length : Int) + (B.length : Int)) = true := beq_iff_eq.mpr (by have := HML.out; omega)
  have b3' : ((M.length : Int) != (A.length : Int) + (B.length : Int)) = false := by simpa using (by have := HML.out; omega : (M.length : Int) = (A.length : Int) + (B.length : Int))
  have b4 : ((S.length : Int) == (A.length : Int)) = true := beq_iff_eq.mpr (by have := HSL.out; omega)
  have b4' : ((S.length : Int) != (A.length : Int)) = false := by simpa using (by have := HSL.out; omega : (S.length : Int) = (A.length : Int))
  go_wp2_with fail
  clear b3 b3' b4 b4'
  go_loopw [11] (fun iv W => ∃ k : Nat, k ≤ A.length ∧ iv = .int .i64 k ∧ Below w3.heap.size w3 W) (fun iv _ => A.length - (intOf iv).toNat)
  case atStart => exact ⟨0, Nat.zero_le _, rfl, Below.refl _ _⟩
  case round =>
    obtain ⟨k, hk, rfl, hW⟩ := hrel
    have HW := Lib.hid hW
    clear hW
    by_cases hil : k < A.length
    · have b5 : ((k : Int) < (A.length : Int)) = True := eq_true (by omega)
      have b5' : (k < A.length) = True := eq_true hil
      obtain ⟨x, hx⟩ : ∃ x, A[k] = x := ⟨_, rfl⟩
      obtain ⟨g1, o1, rfl⟩ := HA3.out.some (by omega)
      have HX := Lib.hid hx
      have HA := Lib.hid (HA3.out.below HW.out)
      have n1 := HMC.out x
      have n2 := HSC.out x
      have n3 := cnt_le A x
      have n4 := cnt_le B x
      have HC1 := Lib.hid (fun W (h : Below wr.heap.size wr W) => count_l M x ad9 cp9 M.length W ((HI9.out.below HW.out).below h) rfl (by have := HML.out; omega))
      have HC2 := Lib.hid (fun W (h : Below wr.heap.size wr W) => count_l A x _ capa A.length W (HA.out.below h) rfl (by omega))
      have HC3 := Lib.hid (fun W (h : Below wr.heap.size wr W) => count_l B x adb capb B.length W ((HB3.out.below HW.out).below h) rfl (by omega))
      have HC4 := Lib.hid (fun W (h : Below wr.heap.size wr W) => count_l S x ad10 cp10 S.length W ((HI10.out.below HW.out).below h) rfl (by have := HSL.out; omega))
      rw [n2] at HC4
      generalize cnt M x = cm at *
      generalize cnt A x = ca at *
      generalize cnt B x = cb at *
      have S1 : Hid (wrap64 ((ca : Int) + (cb : Int)) = (cm : Int)) := by unfold Hid wrap64; omega
      have S2 : Hid (IntKind.i64.wrap ((ca : Int) + (cb : Int)) = (cm : Int)) := (IntWalk.i64_in _ (by omega)).trans (by omega)
      clear hx n1 n2 n3 n4
      go_wp2_with fail
      refine wp_region_held_drew (S := fun V => Below wr.heap.size wr V) (by kernel_rfl) ?_ (fun hHeld => ?_)
      · exact bel_drew wr
      revert hHeld
      generalize World.drew _ = W1
      intro hHeld 
      refine wpAnyH_take (i := 0) (v := ?_) rfl (by kernel_rfl) (by kernel_rfl) (by kernel_rfl) (fun _ _ _ h => h) (Or.inl ⟨by rfl, ?_⟩) (by assumption) ?_
      rotate_left
      · intro Wq hSw
        clear hSw
        go_simp
        all_goals (with_reducible rfl)
      try simp only [Act.put, List.getElem_toArray, List.getElem_cons_zero, List.setIfInBounds_toArray, List.set_cons_zero, List.set_cons_succ]
      refine wpAnyH_take (i := 1) (v := ?_) rfl (by kernel_rfl) (by kernel_rfl) (by kernel_rfl) (fun _ _ _ h => h) (Or.inl ⟨by rfl, ?_⟩) (by assumption) ?_
      rotate_left
      · intro Wq hSw
        clear hSw
        go_simp
        all_goals (with_reducible rfl)
      try simp only [Act.put, List.getElem_toArray, List.getElem_cons_succ, List.getElem_cons_zero, List.setIfInBounds_toArray, List.set_cons_zero, List.set_cons_succ]
      refine wpAnyH_take (i := 2) (v := ?_) rfl (by kernel_rfl) (by kernel_rfl) (by kernel_rfl) (fun _ _ _ h => h) (Or.inl ⟨by rfl, ?_⟩) (by assumption) ?_
      rotate_left
      · intro Wq hSw
        clear hSw
        go_simp
        all_goals (with_reducible rfl)
      try simp only [Act.put, List.getElem_toArray, List.getElem_cons_succ, List.getElem_cons_zero, List.setIfInBounds_toArray, List.set_cons_zero, List.set_cons_succ]
      refine wpAnyH_take (i := 3) (v := ?_) rfl (by kernel_rfl) (by kernel_rfl) (by kernel_rfl) (fun _ _ _ h => h) (Or.inl ⟨by rfl, ?_⟩) (by assumption) ?_
      rotate_left
      · intro Wq hSw
        have b1 : ((k : Int) < (A.length : Int)) = True := eq_true (by omega)
        have d1 : (k < A.length) = True := eq_true (by omega)
        have c1 : ((0 : Int) ≤ (k : Int)) = True := eq_true (by omega)
        clear hSw
        go_simp
        all_goals (with_reducible rfl)
      try simp only [Act.put, List.getElem_toArray, List.getElem_cons_succ, List.getElem_cons_zero, List.setIfInBounds_toArray, List.set_cons_zero, List.set_cons_succ]
      refine wpAnyH_take (i := 4) (v := ?_) rfl (by kernel_rfl) (by kernel_rfl) (by kernel_rfl) (fun _ _ _ h => h) (Or.inl ⟨by rfl, ?_⟩) (by assumption) ?_
      rotate_left
      · intro Wq hSw
        have k0 := intRow_at (HA.out.below hSw) hil HX.out
        clear hSw
        go_simp
        all_goals (with_reducible rfl)
      try simp only [Act.put, List.getElem_toArray, List.getElem_cons_succ, List.getElem_cons_zero, List.setIfInBounds_toArray, List.set_cons_zero, List.set_cons_succ]
      refine wpAnyH_take (i := 6) (v := ?_) rfl (by kernel_rfl) (by kernel_rfl) (by kernel_rfl) (fun _ _ _ h => h) (Or.inl ⟨by rfl, ?_⟩) (by assumption) ?_
      rotate_left
      · intro Wq hSw
        clear hSw
        go_simp
        all_goals (with_reducible rfl)
      try simp only [Act.put, List.getElem_toArray, List.getElem_cons_succ, List.getElem_cons_zero, List.setIfInBounds_toArray, List.set_cons_zero, List.set_cons_succ]
      refine wpAnyH_take (i := 7) (v := ?_) rfl (by kernel_rfl) (by kernel_rfl) (by kernel_rfl) (fun _ _ _ h => h) (Or.inl ⟨by rfl, ?_⟩) (by assumption) ?_
      rotate_left
      · intro Wq hSw
        clear hSw
        go_simp
        all_goals (with_reducible rfl)
      try simp only [Act.put, List.getElem_toArray, List.getElem_cons_succ, List.getElem_cons_zero, List.setIfInBounds_toArray, List.set_cons_zero, List.set_cons_succ]
      refine wpAnyH_take (i := 8) (v := ?_) rfl (by kernel_rfl) (by kernel_rfl) (by kernel_rfl) (fun _ _ _ h => h) (Or.inl ⟨by rfl, ?_⟩) (by assumption) ?_
      rotate_left
      · intro Wq hSw
        clear hSw
        go_simp
        all_goals (with_reducible rfl)
      try simp only [Act.put, List.getElem_toArray, List.getElem_cons_succ, List.getElem_cons_zero, List.setIfInBounds_toArray, List.set_cons_zero, List.set_cons_succ]
      refine wpAnyH_take (i := 9) (v := ?_) rfl (by kernel_rfl) (by kernel_rfl) (by kernel_rfl) (fun _ _ _ h => h) (Or.inl ⟨by rfl, ?_⟩) (by assumption) ?_
      rotate_left
      · intro Wq hSw
        have b1 : ((k : Int) < (A.length : Int)) = True := eq_true (by omega)
        have d1 : (k < A.length) = True := eq_true (by omega)
        have c1 : ((0 : Int) ≤ (k : Int)) = True := eq_true (by omega)
        clear hSw
        go_simp
        all_goals (with_reducible rfl)
      try simp only [Act.put, List.getElem_toArray, List.getElem_cons_succ, List.getElem_cons_zero, List.setIfInBounds_toArray, List.set_cons_zero, List.set_cons_succ]
      refine wpAnyH_take (i := 10) (v := ?_) rfl (by kernel_rfl) (by kernel_rfl) (by kernel_rfl) (fun _ _ _ h => h) (Or.inl ⟨by rfl, ?_⟩) (by assumption) ?_
      rotate_left
      · intro Wq hSw
        have k0 := intRow_at (HA.out.below hSw) hil HX.out
        clear hSw
        go_simp
        all_goals (with_reducible rfl)
      try simp only [Act.put, List.getElem_toArray, List.getElem_cons_succ, List.getElem_cons_zero, List.setIfInBounds_toArray, List.set_cons_zero, List.set_cons_succ]
      refine wpAnyH_take (i := 12) (v := ?_) rfl (by kernel_rfl) (by kernel_rfl) (by kernel_rfl) (fun _ _ _ h => h) (Or.inl ⟨by rfl, ?_⟩) (by assumption) ?_
      rotate_left
      · intro Wq hSw
        clear hSw
        go_simp
        all_goals (with_reducible rfl)
      try simp only [Act.put, List.getElem_toArray, List.getElem_cons_succ, List.getElem_cons_zero, List.setIfInBounds_toArray, List.set_cons_zero, List.set_cons_succ]
      refine wpAnyH_take (i := 13) (v := ?_) rfl (by kernel_rfl) (by kernel_rfl) (by kernel_rfl) (fun _ _ _ h => h) (Or.inl ⟨by rfl, ?_⟩) (by assumption) ?_
      rotate_left
      · intro Wq hSw
        clear hSw
        go_simp
        all_goals (with_reducible rfl)
      try simp only [Act.put, List.getElem_toArray, List.getElem_cons_succ, List.getElem_cons_zero, List.setIfInBounds_toArray, List.set_cons_zero, List.set_cons_succ]
      refine wpAnyH_take (i := 14) (v := ?_) rfl (by kernel_rfl) (by kernel_rfl) (by kernel_rfl) (fun _ _ _ h => h) (Or.inl ⟨by rfl, ?_⟩) (by assumption) ?_
      rotate_left
      · intro Wq hSw
        clear hSw
        go_simp
        all_goals (with_reducible rfl)
      try simp only [Act.put, List.getElem_toArray, List.getElem_cons_succ, List.getElem_cons_zero, List.setIfInBounds_toArray, List.set_cons_zero, List.set_cons_succ]
      refine wpAnyH_take (i := 15) (v := ?_) rfl (by kernel_rfl) (by kernel_rfl) (by kernel_rfl) (fun _ _ _ h => h) (Or.inl ⟨by rfl, ?_⟩) (by assumption) ?_
      rotate_left
      · intro Wq hSw
        have b1 : ((k : Int) < (A.length : Int)) = True := eq_true (by omega)
        have d1 : (k < A.length) = True := eq_true (by omega)
        have c1 : ((0 : Int) ≤ (k : Int)) = True := eq_true (by omega)
        clear hSw
        go_simp
        all_goals (with_reducible rfl)
      try simp only [Act.put, List.getElem_toArray, List.getElem_cons_succ, List.getElem_cons_zero, List.setIfInBounds_toArray, List.set_cons_zero, List.set_cons_succ]
      refine wpAnyH_take (i := 16) (v := ?_) rfl (by kernel_rfl) (by kernel_rfl) (by kernel_rfl) (fun _ _ _ h => h) (Or.inl ⟨by rfl, ?_⟩) (by assumption) ?_
      rotate_left
      · intro Wq hSw
        have k0 := intRow_at (HA.out.below hSw) hil HX.out
        clear hSw
        go_simp
        all_goals (with_reducible rfl)
      try simp only [Act.put, List.getElem_toArray, List.getElem_cons_succ, List.getElem_cons_zero, List.setIfInBounds_toArray, List.set_cons_zero, List.set_cons_succ]
      refine r1 (i := 5) rfl (fun K hK => ?_)
      go_simp
      (with_reducible refine (HC1.out _ hHeld).mono ?_)
      rintro e w1 ⟨rfl, hb1⟩
      go_wp2_with fail
      refine hK.out _ _ (bl_trans hHeld hb1) (fun hHeld2 => ?_)
      clear hK K hHeld
      have hHeld := hHeld2
      clear hHeld2
      try simp only [Act.put, List.getElem_toArray, List.getElem_cons_succ, List.getElem_cons_zero, List.setIfInBounds_toArray, List.set_cons_zero, List.set_cons_succ]
      refine r1 (i := 11) rfl (fun K hK => ?_)
      go_simp
      (with_reducible refine (HC2.out _ hHeld).mono ?_)
      rintro e w1 ⟨rfl, hb1⟩
      go_wp2_with fail
      refine hK.out _ _ (bl_trans hHeld hb1) (fun hHeld2 => ?_)
      clear hK K hHeld
      have hHeld := hHeld2
      clear hHeld2
      try simp only [Act.put, List.getElem_toArray, List.getElem_cons_succ, List.getElem_cons_zero, List.setIfInBounds_toArray, List.set_cons_zero, List.set_cons_succ]
      refine r1 (i := 17) rfl (fun K hK => ?_)
      go_simp
      (with_reducible refine (HC3.out _ hHeld).mono ?_)
      rintro e w1 ⟨rfl, hb1⟩
      go_wp2_with fail
      refine hK.out _ _ (bl_trans hHeld hb1) (fun hHeld2 => ?_)
      clear hK K hHeld
      have hHeld := hHeld2
      clear hHeld2
      try simp only [Act.put, List.getElem_toArray, List.getElem_cons_succ, List.getElem_cons_zero, List.setIfInBounds_toArray, List.set_cons_zero, List.set_cons_succ]
      refine wpAnyH_take (i := 18) (v := ?_) rfl (by kernel_rfl) (by kernel_rfl) (by kernel_rfl) (fun _ _ _ h => h) (Or.inl ⟨by rfl, ?_⟩) (by assumption) ?_
      rotate_left
      · intro Wq hSw
        have s1 := S1.out
        have s2 := S2.out
        clear hSw
        go_simp
        all_goals (with_reducible rfl)
      try simp only [Act.put, List.getElem_toArray, List.getElem_cons_succ, List.getElem_cons_zero, List.setIfInBounds_toArray, List.set_cons_zero, List.set_cons_succ]
      refine wpAnyH_take (i := 19) (v := ?_) rfl (by kernel_rfl) (by kernel_rfl) (by kernel_rfl) (fun _ _ _ h => h) (Or.inl ⟨by rfl, ?_⟩) (by assumption) ?_
      rotate_left
      · intro Wq hSw
        clear hSw
        go_simp
        all_goals (with_reducible rfl)
      try simp only [Act.put, List.getElem_toArray, List.getElem_cons_succ, List.getElem_cons_zero, List.setIfInBounds_toArray, List.set_cons_zero, List.set_cons_succ]
      refine wpAnyH_take (i := 20) (v := ?_) rfl (by kernel_rfl) (by kernel_rfl) (by kernel_rfl) (fun _ _ _ h => h) (Or.inl ⟨by rfl, ?_⟩) (by assumption) ?_
      rotate_left
      · intro Wq hSw
        clear hSw
        go_simp
        all_goals (with_reducible rfl)
      try simp only [Act.put, List.getElem_toArray, List.getElem_cons_succ, List.getElem_cons_zero, List.setIfInBounds_toArray, List.set_cons_zero, List.set_cons_succ]
      refine wpAnyH_take (i := 21) (v := ?_) rfl (by kernel_rfl) (by kernel_rfl) (by kernel_rfl) (fun _ _ _ h => h) (Or.inl ⟨by rfl, ?_⟩) (by assumption) ?_
      rotate_left
      · intro Wq hSw
        clear hSw
        go_simp
        all_goals (with_reducible rfl)
      try simp only [Act.put, List.getElem_toArray, List.getElem_cons_succ, List.getElem_cons_zero, List.setIfInBounds_toArray, List.set_cons_zero, List.set_cons_succ]
      refine wpAnyH_take (i := 22) (v := ?_) rfl (by kernel_rfl) (by kernel_rfl) (by kernel_rfl) (fun _ _ _ h => h) (Or.inl ⟨by rfl, ?_⟩) (by assumption) ?_
      rotate_left
      · intro Wq hSw
        clear hSw
        go_simp
        all_goals (with_reducible rfl)
      try simp only [Act.put, List.getElem_toArray, List.getElem_cons_succ, List.getElem_cons_zero, List.setIfInBounds_toArray, List.set_cons_zero, List.set_cons_succ]
      refine wpAnyH_take (i := 23) (v := ?_) rfl (by kernel_rfl) (by kernel_rfl) (by kernel_rfl) (fun _ _ _ h => h) (Or.inl ⟨by rfl, ?_⟩) (by assumption) ?_
      rotate_left
      · intro Wq hSw
        clear hSw
        go_simp
        all_goals (with_reducible rfl)
      try simp only [Act.put, List.getElem_toArray, List.getElem_cons_succ, List.getElem_cons_zero, List.setIfInBounds_toArray, List.set_cons_zero, List.set_cons_succ]
      refine wpAnyH_take (i := 24) (v := ?_) rfl (by kernel_rfl) (by kernel_rfl) (by kernel_rfl) (fun _ _ _ h => h) (Or.inl ⟨by rfl, ?_⟩) (by assumption) ?_
      rotate_left
      · intro Wq hSw
        have b1 : ((k : Int) < (A.length : Int)) = True := eq_true (by omega)
        have d1 : (k < A.length) = True := eq_true (by omega)
        have c1 : ((0 : Int) ≤ (k : Int)) = True := eq_true (by omega)
        clear hSw
        go_simp
        all_goals (with_reducible rfl)
      try simp only [Act.put, List.getElem_toArray, List.getElem_cons_succ, List.getElem_cons_zero, List.setIfInBounds_toArray, List.set_cons_zero, List.set_cons_succ]
      refine wpAnyH_take (i := 25) (v := ?_) rfl (by kernel_rfl) (by kernel_rfl) (by kernel_rfl) (fun _ _ _ h => h) (Or.inl ⟨by rfl, ?_⟩) (by assumption) ?_
      rotate_left
      · intro Wq hSw
        have k0 := intRow_at (HA.out.below hSw) hil HX.out
        clear hSw
        go_simp
        all_goals (with_reducible rfl)
      try simp only [Act.put, List.getElem_toArray, List.getElem_cons_succ, List.getElem_cons_zero, List.setIfInBounds_toArray, List.set_cons_zero, List.set_cons_succ]
      refine wpAnyH_take (i := 27) (v := ?_) rfl (by kernel_rfl) (by kernel_rfl) (by kernel_rfl) (fun _ _ _ h => h) (Or.inl ⟨by rfl, ?_⟩) (by assumption) ?_
      rotate_left
      · intro Wq hSw
        clear hSw
        go_simp
        all_goals (with_reducible rfl)
      try simp only [Act.put, List.getElem_toArray, List.getElem_cons_succ, List.getElem_cons_zero, List.setIfInBounds_toArray, List.set_cons_zero, List.set_cons_succ]
      refine wpAnyH_take (i := 28) (v := ?_) rfl (by kernel_rfl) (by kernel_rfl) (by kernel_rfl) (fun _ _ _ h => h) (Or.inl ⟨by rfl, ?_⟩) (by assumption) ?_
      rotate_left
      · intro Wq hSw
        clear hSw
        go_simp
        all_goals (with_reducible rfl)
      try simp only [Act.put, List.getElem_toArray, List.getElem_cons_succ, List.getElem_cons_zero, List.setIfInBounds_toArray, List.set_cons_zero, List.set_cons_succ]
      refine wpAnyH_take (i := 29) (v := ?_) rfl (by kernel_rfl) (by kernel_rfl) (by kernel_rfl) (fun _ _ _ h => h) (Or.inl ⟨by rfl, ?_⟩) (by assumption) ?_
      rotate_left
      · intro Wq hSw
        clear hSw
        go_simp
        all_goals (with_reducible rfl)
      try simp only [Act.put, List.getElem_toArray, List.getElem_cons_succ, List.getElem_cons_zero, List.setIfInBounds_toArray, List.set_cons_zero, List.set_cons_succ]
      refine wpAnyH_take (i := 30) (v := ?_) rfl (by kernel_rfl) (by kernel_rfl) (by kernel_rfl) (fun _ _ _ h => h) (Or.inl ⟨by rfl, ?_⟩) (by assumption) ?_
      rotate_left
      · intro Wq hSw
        have b1 : ((k : Int) < (A.length : Int)) = True := eq_true (by omega)
        have d1 : (k < A.length) = True := eq_true (by omega)
        have c1 : ((0 : Int) ≤ (k : Int)) = True := eq_true (by omega)
        clear hSw
        go_simp
        all_goals (with_reducible rfl)
      try simp only [Act.put, List.getElem_toArray, List.getElem_cons_succ, List.getElem_cons_zero, List.setIfInBounds_toArray, List.set_cons_zero, List.set_cons_succ]
      refine wpAnyH_take (i := 31) (v := ?_) rfl (by kernel_rfl) (by kernel_rfl) (by kernel_rfl) (fun _ _ _ h => h) (Or.inl ⟨by rfl, ?_⟩) (by assumption) ?_
      rotate_left
      · intro Wq hSw
        have k0 := intRow_at (HA.out.below hSw) hil HX.out
        clear hSw
        go_simp
        all_goals (with_reducible rfl)
      try simp only [Act.put, List.getElem_toArray, List.getElem_cons_succ, List.getElem_cons_zero, List.setIfInBounds_toArray, List.set_cons_zero, List.set_cons_succ]
      refine r1 (i := 26) rfl (fun K hK => ?_)
      go_simp
      (with_reducible refine (HC4.out _ hHeld).mono ?_)
      rintro e w1 ⟨rfl, hb1⟩
      go_wp2_with fail
      refine hK.out _ _ (bl_trans hHeld hb1) (fun hHeld2 => ?_)
      clear hK K hHeld
      have hHeld := hHeld2
      clear hHeld2
      try simp only [Act.put, List.getElem_toArray, List.getElem_cons_succ, List.getElem_cons_zero, List.setIfInBounds_toArray, List.set_cons_zero, List.set_cons_succ]
      refine r1 (i := 32) rfl (fun K hK => ?_)
      go_simp
      (with_reducible refine (HC2.out _ hHeld).mono ?_)
      rintro e w1 ⟨rfl, hb1⟩
      go_wp2_with fail
      refine hK.out _ _ (bl_trans hHeld hb1) (fun hHeld2 => ?_)
      clear hK K hHeld
      have hHeld := hHeld2
      clear hHeld2
      try simp only [Act.put, List.getElem_toArray, List.getElem_cons_succ, List.getElem_cons_zero, List.setIfInBounds_toArray, List.set_cons_zero, List.set_cons_succ]
      refine wpAnyH_take (i := 33) (v := ?_) rfl (by kernel_rfl) (by kernel_rfl) (by kernel_rfl) (fun _ _ _ h => h) (Or.inl ⟨by rfl, ?_⟩) (by assumption) ?_
      rotate_left
      · intro Wq hSw
        clear hSw
        go_simp
        all_goals (with_reducible rfl)
      try simp only [Act.put, List.getElem_toArray, List.getElem_cons_succ, List.getElem_cons_zero, List.setIfInBounds_toArray, List.set_cons_zero, List.set_cons_succ]
      refine wpAnyH_take (i := 34) (v := ?_) rfl (by kernel_rfl) (by kernel_rfl) (by kernel_rfl) (fun _ _ _ h => h) (Or.inl ⟨by rfl, ?_⟩) (by assumption) ?_
      rotate_left
      · intro Wq hSw
        clear hSw
        go_simp
        all_goals (with_reducible rfl)
      try simp only [Act.put, List.getElem_toArray, List.getElem_cons_succ, List.getElem_cons_zero, List.setIfInBounds_toArray, List.set_cons_zero, List.set_cons_succ]
      refine wpAnyH_done (by kernel_rfl) ?_ _
      have HW2 := Lib.hid (bl_trans HW.out hHeld)
      clear HW hHeld
      obtain ⟨m1, m2, m3, m4⟩ := wnum (i := k) (by omega)
      go_wp2_with fail
      clear m1 m2 m3 m4
      exact ⟨⟨k + 1, hil, by rw [Int.natCast_add]; rfl, HW2.out⟩, by simp only [intOf]; omega⟩
    · obtain rfl : k = A.length := by omega
      have b5 : ((A.length : Int) < (A.length : Int)) = False := eq_false (by omega)
      have HO9a := Lib.hid (HO9.out.below HW.out)
      have HO10a := Lib.hid (HO10.out.below HW.out)
      go_wp2_with fail
      go_loopw [12] (fun iv W => ∃ (k : Nat) (M' : List Int), k ≤ M.length ∧ M'.length = M.length ∧ iv = .int .i64 k ∧ Oi w1 (.slice ad9 M.length cp9) M' W ∧ Oi w1 (.slice ad10 S.length cp10) S W) (fun iv _ => M.length - (intOf iv).toNat)
      case atStart => exact ⟨0, M, Nat.zero_le _, rfl, rfl, HO9a.out, HO10a.out⟩
      case round =>
        obtain ⟨k, M', hk, hML', rfl, hO9, hO10⟩ := hrel
        have HO9 := Lib.hid hO9
        have HO10 := Lib.hid hO10
        have HMM := Lib.hid hML'
        clear hO9 hO10 HO9a HO10a hML'
        by_cases hil : k < M.length
        · have b6 : ((k : Int) < (M.length : Int)) = True := eq_true (by omega)
          have b6' : (k < M.length) = True := eq_true hil
          have c6 : ((0 : Int) ≤ (k : Int)) = True := eq_true (by omega)
          obtain ⟨g9, rfl⟩ := HO9.out.addr (by have := HMM.out; omega)
          have f1 := HO9.out.frozen HMM.out.symm k
          have k1 := HO9.out.cell HMM.out.symm (j := k) (by have := HMM.out; omega)
          have HO9b := Lib.hid (HO9.out.store HMM.out.symm k (-7))
          have HO10b := Lib.hid (oi_store2 HO9.out HMM.out.symm k (-7) HO10.out (fun g' e => HNE.out g9 g' rfl (HO10.out.addr' e)))
          clear HO9 HO10
          obtain ⟨m1, m2, m3, m4⟩ := wnum (i := k) (by have := HML.out; omega)
          go_wp2_with fail
          clear m1 m2 m3 m4 f1 k1
          exact ⟨⟨k + 1, _, hil, by rw [List.length_set]; exact HMM.out, by rw [Int.natCast_add]; rfl, HO9b.out, HO10b.out⟩, by simp only [intOf]; omega⟩
        · obtain rfl : k = M.length := by omega
          have b6 : ((M.length : Int) < (M.length : Int)) = False := eq_false (by omega)
          clear HO9
          go_wp2_with fail
          go_loopw [13] (fun iv W => ∃ (k : Nat) (S' : List Int), k ≤ S.length ∧ S'.length = S.length ∧ iv = .int .i64 k ∧ Oi w1 (.slice ad10 S.length cp10) S' W) (fun iv _ => S.length - (intOf iv).toNat)
          case atStart => exact ⟨0, S, Nat.zero_le _, rfl, rfl, HO10.out⟩
          case round =>
            obtain ⟨k, S', hk, hSL', rfl, hO10⟩ := hrel
            clear HO10
            have HO10 := Lib.hid hO10
            have HMM2 := Lib.hid hSL'
            clear hO10 hSL'
            by_cases hil : k < S.length
            · have b7 : ((k : Int) < (S.length : Int)) = True := eq_true (by omega)
              have b7' : (k < S.length) = True := eq_true hil
              have c7 : ((0 : Int) ≤ (k : Int)) = True := eq_true (by omega)
              obtain ⟨g10, rfl⟩ := HO10.out.addr (by have := HMM2.out; omega)
              have f1 := HO10.out.frozen HMM2.out.symm k
              have k1 := HO10.out.cell HMM2.out.symm (j := k) (by have := HMM2.out; omega)
              have HO10b := Lib.hid (HO10.out.store HMM2.out.symm k (-7))
              clear HO10
              obtain ⟨m1, m2, m3, m4⟩ := wnum (i := k) (by have := HSL.out; omega)
              go_wp2_with fail
              clear m1 m2 m3 m4 f1 k1
              exact ⟨⟨k + 1, _, hil, by rw [List.length_set]; exact HMM2.out, by rw [Int.natCast_add]; rfl, HO10b.out⟩, by simp only [intOf]; omega⟩
            · obtain rfl : k = S.length := by omega
              have b7 : ((S.length : Int) < (S.length : Int)) = False := eq_false (by omega)
              have HBE := Lib.hid HO10.out.hb
              have HS := Lib.hid (sameInts_l A A ad8 ada cp8 capa A.length A.length _ (HI8b.out.below HBE.out) ((HA1.out).below HBE.out) rfl rfl (by omega))
              rw [decide_eq_true (rfl : A = A)] at HS
              replace HBE := Lib.hid (bl_trans HW1.out HBE.out)
              go_wp2_with fail
              (with_reducible refine HS.out.mono ?_); rintro e w7 ⟨rfl, hb1⟩
              replace HBE := Lib.hid (bl_trans HBE.out hb1)
              clear hb1 HS
              go_wp2_with fail
              (with_reducible refine (K.out _).mono ?_); rintro e w8 ⟨rfl, hb1⟩
              replace HBE := Lib.hid (bl_trans HBE.out hb1)
              clear hb1
              go_wp2
              go_ret
              exact ⟨rfl, HBE.out⟩

theorem keeps_l (w : World) (A : List Int) (ada : Option Addr) (capa : Nat) (hca : A.length ≤ capa) (hA : IntRow w ada A) (hna : ada = none → capa = 0) (_ : ∀ x ∈ A, -9223372036854775808 ≤ x ∧ x ≤ 9223372036854775807)
    (B : List Int) (adb : Option Addr) (capb : Nat) (hcb : B.length ≤ capb) (hB : IntRow w adb B) (hnb : adb = none → capb = 0) (_ : ∀ x ∈ B, -9223372036854775808 ≤ x ∧ x ≤ 9223372036854775807) (odd : Bool) :
    Calls Try.prog 6 #[.slice ada A.length capa, .slice adb B.length capb, .bool odd] w (Gives (.bool true) w) := by
  by_cases hbig : 100 < A.length ∨ 100 < B.length
  · have K := Lib.hid (fun W => known_l W)
    rcases Nat.lt_or_ge 100 A.length with h1 | h1
    · have b1 : ((100 : Int) < (A.length : Int)) = True := eq_true (by omega)
      go_enter Try.func6, Try.ntmps6
      go_wp2_with fail
      (with_reducible refine (K.out _).mono ?_); rintro e w1 ⟨rfl, hb1⟩
      go_wp2
      go_ret
      exact ⟨rfl, hb1⟩
    · have b1 : ((100 : Int) < (A.length : Int)) = False := eq_false (by omega)
      have b2 : ((100 : Int) < (B.length : Int)) = True := eq_true (by omega)
      go_enter Try.func6, Try.ntmps6
      go_wp2_with fail
      (with_reducible refine (K.out _).mono ?_); rintro e w1 ⟨rfl, hb1⟩
      go_wp2
      go_ret
      exact ⟨rfl, hb1⟩
  cases odd
  · exact keepsfalse_l w A ada capa hca hA hna B adb capb hcb hB hnb (by omega) (by omega)
  · exact keepstrue_l w A ada capa hca hA hna B adb capb hcb hB hnb (by omega) (by omega)
end Go.Proofs.Ytmkegehkifpkjaa
