/-
  The law RingsBack.
-/
import Derived.Test.YtkidphekfnmhhaaROrd
import Derived.Test.YtkidphekfnmhhaaRBackMath
namespace Go.Proofs.Ytkidphekfnmhhaa
open Go.RowKit

/-- how often p stands in the first a rows and the first b places of the next -/
def hasN (L : List (List Int)) (p : Int) (a b : Nat) : Nat := (L.take a).flatten.count p + ((L.getD a []).take b).count p
theorem hasN_next (L : List (List Int)) (p : Int) {a : Nat} (h : a < L.length) : hasN L p a (L.getD a []).length = hasN L p (a + 1) 0 := by
  unfold hasN
  rw [List.take_succ_eq_append_getElem h, List.flatten_append, List.count_append]
  simp [List.getD, h]
theorem hasN_step (L : List (List Int)) (p : Int) {a b : Nat} (h : b < (L.getD a []).length) : hasN L p a (b + 1) = hasN L p a b + if (L.getD a [])[b] = p then 1 else 0 := by
  unfold hasN
  rw [List.take_succ_eq_append_getElem h, List.count_append, List.count_singleton, Nat.add_assoc]
  simp
theorem hasN_all (L : List (List Int)) (p : Int) : hasN L p L.length 0 = L.flatten.count p := by
  unfold hasN
  simp
theorem hasN_le (L : List (List Int)) (p : Int) {a b : Nat} (h : a < L.length) : hasN L p a b ≤ total L := by
  have h1 := total_take L h
  unfold hasN
  have h2 : (L.take a).flatten.count p ≤ (L.take a).flatten.length := List.count_le_length
  have h3 : ((L.getD a []).take b).count p ≤ ((L.getD a []).take b).length := List.count_le_length
  have h4 : (L.take a).flatten.length = total (L.take a) := by unfold total; rw [List.length_flatten]
  have h5 : L.getD a [] = L[a] := by simp [List.getD, h]
  rw [List.length_take] at h3
  rw [h5] at h3 ⊢
  omega
set_option maxHeartbeats 16000000 in
set_option maxRecDepth 100000 in
theorem back_l (w : World) (n : Int) (l : List Pt) (al : Option Addr) (cl : Nat) (_ : l.length ≤ cl) (hL : PtRow w al l) (_ : al = none → cl = 0) :
    Calls Try.prog 10 #[.int .i64 n, .slice al l.length cl] w (Gives (.bool true) w) := by
  have KN := Lib.hid (fun W => known_l W)
  have HL := Lib.hid hL
  clear hL
  go_enter Try.func10, Try.ntmps10
  have HB := Lib.hid (Below.refl w.heap.size w)
  by_cases h1 : 300 < n
  · have b1 : (300 < n) = True := eq_true h1
    go_wp2_with fail
    (with_reducible refine (KN.out _).mono ?_); rintro e' wk ⟨rfl, hbk⟩
    have HZ := Lib.hid (bl_trans HB.out hbk)
    clear hbk
    go_wp2_with fail
    go_ret
    exact ⟨rfl, HZ.out⟩
  have b1 : (300 < n) = False := eq_false h1
  by_cases h2 : 150 < l.length
  · have b2 : ((150 : Int) < (l.length : Int)) = True := eq_true (by omega)
    have b2' : (150 < l.length) = True := eq_true h2
    go_wp2_with fail
    (with_reducible refine (KN.out _).mono ?_); rintro e' wk ⟨rfl, hbk⟩
    have HZ := Lib.hid (bl_trans HB.out hbk)
    clear hbk
    go_wp2_with fail
    go_ret
    exact ⟨rfl, HZ.out⟩
  have b2 : ((150 : Int) < (l.length : Int)) = False := eq_false (by omega)
  have b2' : (150 < l.length) = False := eq_false h2
  rcases back_cases n l with ⟨a, e, hr, he⟩ | ⟨k, L, rfl, hBk⟩
  · have HR := Lib.hid (rings_at hr al cl w HL.out (.inl (by omega)) (by omega))
    have u1 : (e = 0) = False := eq_false he
    have u2 : (e == 0) = false := beq_eq_false_iff_ne.2 he
    have u3 : (e != 0) = true := bne_iff_ne.2 he
    clear hr he h1 h2
    go_wp2_with fail
    (with_reducible refine HR.out.mono ?_); rintro e' w2 ⟨ar, cr, rfl, -, -, -, hb⟩
    replace HB := Lib.hid hb
    clear hb HR
    simp only [List.length_nil] at *
    go_wp2_with fail
    (with_reducible refine (KN.out _).mono ?_); rintro e' wk ⟨rfl, hbk⟩
    have HZ := Lib.hid (bl_trans HB.out hbk)
    clear hbk
    go_wp2_with fail
    go_ret
    exact ⟨rfl, HZ.out⟩
  have hl : l.length ≤ 150 := by omega
  have hk : k ≤ 300 := by omega
  have HBk := Lib.hid hBk
  have HR := Lib.hid (rings_at hBk.r1 al cl w HL.out (.inl (by omega)) (by omega))
  have htl : total L = l.length := by rw [← segsF_len]; exact hBk.len
  have hLk : L.length ≤ 10000 ∧ ∀ R ∈ L, R.length ≤ 10000 := rings_size hBk.r1 (by omega)
  have HTl := Lib.hid htl
  have HLk := Lib.hid hLk
  have Hl := Lib.hid hl
  have Hk := Lib.hid hk
  clear hBk htl hLk h1 h2
  go_wp2_with fail
  (with_reducible refine HR.out.mono ?_); rintro e' w2 ⟨ar, cr, rfl, hRr, -, -, hb⟩
  have HRr := Lib.hid hRr
  replace HB := Lib.hid hb
  have HSg := Lib.hid (rsg_l L ar cr w2 hRr HLk.out.1 (by rw [HTl.out]; omega))
  clear hb HR hRr
  go_wp2_with fail
  (with_reducible refine HSg.out.mono ?_); rintro e' w3 ⟨v3, rfl, hO⟩
  have hb := hO.hb
  obtain ⟨a8, c8, ev, -, hS8, -⟩ := hO.pts
  rw [HBk.out.len] at ev
  subst ev
  have HS8 := Lib.hid hS8
  replace HRr := Lib.hid (HRr.out.below hb)
  replace HB := Lib.hid (bl_trans HB.out hb)
  have HR2 : Hid (Calls Try.prog 27 #[.int .i64 (k : Int), .slice a8 l.length c8] w3 fun en w' => ∃ ar cr, en = .returned (.tuple #[.slice ar L.length cr, .int .i64 0, .int .i64 0]) ∧ RowsAt w' ar L ∧ L.length ≤ cr ∧ (ar = none → cr = 0) ∧ Below w3.heap.size w3 w') := by
    have := rings_at HBk.out.r2 a8 c8 w3 HS8.out (.inl (by omega)) (by rw [HBk.out.len]; omega)
    rwa [HBk.out.len] at this
  clear hO hb hS8 HSg
  go_wp2_with fail
  (with_reducible refine HR2.out.mono ?_); rintro e' w4 ⟨ar2, cr2, rfl, hRr2, -, -, hb⟩
  have HRr2 := Lib.hid hRr2
  replace HRr := Lib.hid (HRr.out.below hb)
  replace HS8 := Lib.hid (HS8.out.below hb)
  replace HB := Lib.hid (bl_trans HB.out hb)
  have HDg := Lib.hid (degrees_l (k : Int) l al cl w4 (HL.out.below HB.out) (.inl (by omega)) (by omega))
  clear hb hRr2 HR2
  go_wp2_with fail
  (with_reducible refine HDg.out.mono ?_); rintro e' w5 hD
  have hD2 : ∃ v, e' = .returned (.tuple #[v, .int .i64 0]) ∧ Oi w4 v (degs k l) w5 := by
    rcases hD with ⟨-, v, h1, h2⟩ | ⟨h, -⟩
    · exact ⟨v, h1, by rwa [Int.toNat_natCast] at h2⟩
    · exact absurd HBk.out.ok h
  clear hD
  obtain ⟨v5, rfl, hO5⟩ := hD2
  have hb := hO5.hb
  obtain ⟨ad, cd, ev, -, hDr, -⟩ := hO5.ints
  rw [degs_len] at ev
  subst ev
  have HDr := Lib.hid hDr
  replace HRr := Lib.hid (HRr.out.below hb)
  replace HRr2 := Lib.hid (HRr2.out.below hb)
  replace HS8 := Lib.hid (HS8.out.below hb)
  replace HB := Lib.hid (bl_trans HB.out hb)
  have HSm := Lib.hid (same_l L L ar ar2 cr cr2 L.length L.length w5 HRr.out HRr2.out rfl rfl HLk.out.1 HLk.out.2)
  rw [decide_eq_true (rfl : L = L)] at HSm
  clear hb hO5 hDr HDg
  have j1 : ((k : Int) != (k : Int)) = false := by simp
  have j2 : ((l.length : Int) != (l.length : Int)) = false := by simp
  go_wp2_with fail
  (with_reducible refine HSm.out.mono ?_); rintro e' w6 ⟨rfl, hb⟩
  replace HRr := Lib.hid (HRr.out.below hb)
  replace HS8 := Lib.hid (HS8.out.below hb)
  replace HDr := Lib.hid (HDr.out.below hb)
  replace HB := Lib.hid (bl_trans HB.out hb)
  replace HL := Lib.hid (HL.out.below HB.out)
  clear hb HSm HRr2
  go_wp2_with fail
  obtain ⟨W0, eW⟩ : ∃ W, W = w6 := ⟨_, rfl⟩
  subst eW
  go_loopw [14] (fun iv W => ∃ i : Nat, i ≤ l.length ∧ iv = .int .i64 i ∧ Below W0.heap.size W0 W) (fun iv _ => l.length - (intOf iv).toNat)
  case atStart => exact ⟨0, Nat.zero_le _, rfl, Below.refl _ _⟩
  case round =>
    obtain ⟨i, hi9, rfl, hBi⟩ := hrel
    have HBi := Lib.hid hBi
    clear hBi
    by_cases hil : i < l.length
    · have q1 : ((i : Int) < (l.length : Int)) = True := eq_true (by omega)
      have q2 : (i < l.length) = True := eq_true hil
      obtain ⟨gl, ol, rfl⟩ := HL.out.some (by omega)
      obtain ⟨g8, o8, rfl⟩ := HS8.out.some (by rw [HBk.out.len]; omega)
      obtain ⟨t, ht⟩ : ∃ t, pget l i = t := ⟨_, rfl⟩
      obtain ⟨tx, ty⟩ := t
      have HT := Lib.hid ht
      have hone := HBk.out.one i hil
      rw [ht] at hone
      have HOne := Lib.hid hone
      clear ht hone
      go_wp2_with fail
      go_loopw [15, 16] (fun cv jv W => ∃ j : Nat, j ≤ l.length ∧ jv = .int .i64 j ∧ cv = .int .i64 ((cntK (fun j => sameB9 (pget (segsF L) j) ⟨tx, ty⟩) j : Nat) : Int) ∧ Below W0.heap.size W0 W) (fun _ jv _ => l.length - (intOf jv).toNat)
      case atStart => exact ⟨0, Nat.zero_le _, rfl, rfl, HBi.out⟩
      case round =>
        obtain ⟨j, hj9, rfl, rfl, hBj⟩ := hrel
        clear HBi
        have HBi := Lib.hid hBj
        clear hBj
        by_cases hjl : j < l.length
        · have q3 : ((j : Int) < (l.length : Int)) = True := eq_true (by omega)
          have q4 : (j < l.length) = True := eq_true hjl
          have hjS : j < (segsF L).length := by rw [HBk.out.len]; exact hjl
          obtain ⟨s, hs⟩ : ∃ s, pget (segsF L) j = s := ⟨_, rfl⟩
          obtain ⟨sx, sy⟩ := s
          have HS := Lib.hid hs
          have hcl := cntK_le (fun j => sameB9 (pget (segsF L) j) ⟨tx, ty⟩) j
          obtain ⟨sm, hsm⟩ : ∃ b, sameB9 ⟨sx, sy⟩ ⟨tx, ty⟩ = b := ⟨_, rfl⟩
          have HC : Hid (cntK (fun j => sameB9 (pget (segsF L) j) ⟨tx, ty⟩) (j + 1) = cntK (fun j => sameB9 (pget (segsF L) j) ⟨tx, ty⟩) j + if sm = true then 1 else 0) := by
            unfold Hid
            show cntK _ j + (if sameB9 (pget (segsF L) j) ⟨tx, ty⟩ = true then 1 else 0) = _
            rw [hs, hsm]
          obtain ⟨ct, hct⟩ : ∃ c, cntK (fun j => sameB9 (pget (segsF L) j) ⟨tx, ty⟩) j = c := ⟨_, rfl⟩
          rw [hct] at HC hcl ⊢
          have HSM := Lib.hid (sameB9_iff (s := ⟨sx, sy⟩) (t := ⟨tx, ty⟩))
          rw [hsm] at HSM
          dsimp only at HSM
          have N1 := Lib.hid (wnum (i := j) (by omega))
          have N2 := Lib.hid (wnum (i := ct) (by omega))
          clear hs hct hsm hcl
          go_upto_region 18 with (fail)
          obtain ⟨WC, eW⟩ : ∃ W, W = wr := ⟨_, rfl⟩
          subst eW
          go_cut [126] (fun u W => u = .bool sm ∧ Below WC.heap.size WC W)
          case first =>
            by_cases e1 : sx = tx
            case pos =>
              by_cases e2 : sy = ty
              case pos =>
                have HV : Hid (sm = true) := by have := HSM.out; unfold Hid; cases sm <;> simp_all
                subst e1 e2
                refine wp_region_held_drew (S := fun V => Below WC.heap.size WC V) (by kernel_rfl) ?_ (fun hHeld => ?_)
                · exact bel_drew WC
                revert hHeld
                generalize World.drew _ = W1
                intro hHeld 
                refine wpAnyH_take (i := 0) (v := ?_) rfl (by kernel_rfl) (by kernel_rfl) (by kernel_rfl) (fun _ _ _ h => h) (Or.inl ⟨by rfl, ?_⟩) (by assumption) ?_
                rotate_left
                · intro Wq hSw
                  clear hSw
                  go_simp
                  all_goals (with_reducible rfl)
                try simp only [Act.put, List.getElem_toArray, List.getElem_cons_zero, List.setIfInBounds_toArray, List.set_cons_zero, List.set_cons_succ]
                refine wpAnyH_take (i := 1) (v := ?_) rfl (by kernel_rfl) (by kernel_rfl) (by kernel_rfl) (fun _ _ _ h => h) (Or.inl ⟨by rfl, ?_⟩) (by assumption) ?_
                rotate_left
                · intro Wq hSw
                  clear hSw
                  go_simp
                  all_goals (with_reducible rfl)
                try simp only [Act.put, List.getElem_toArray, List.getElem_cons_succ, List.getElem_cons_zero, List.setIfInBounds_toArray, List.set_cons_zero, List.set_cons_succ]
                refine wpAnyH_take (i := 2) (v := ?_) rfl (by kernel_rfl) (by kernel_rfl) (by kernel_rfl) (fun _ _ _ h => h) (Or.inl ⟨by rfl, ?_⟩) (by assumption) ?_
                rotate_left
                · intro Wq hSw
                  have b1 : ((j : Int) < (l.length : Int)) = True := eq_true (by omega)
                  have d1 : (j < l.length) = True := eq_true (by omega)
                  have c1 : ((0 : Int) ≤ (j : Int)) = True := eq_true (by omega)
                  clear hSw
                  go_simp
                  all_goals (with_reducible rfl)
                try simp only [Act.put, List.getElem_toArray, List.getElem_cons_succ, List.getElem_cons_zero, List.setIfInBounds_toArray, List.set_cons_zero, List.set_cons_succ]
                refine wpAnyH_take (i := 3) (v := ?_) rfl (by kernel_rfl) (by kernel_rfl) (by kernel_rfl) (fun _ _ _ h => h) (Or.inl ⟨by rfl, ?_⟩) (by assumption) ?_
                rotate_left
                · intro Wq hSw
                  obtain ⟨k0, k1⟩ := ptRow_at (HS8.out.below (bl_trans HBi.out hSw)) hjS HS.out
                  clear hSw
                  go_simp
                  all_goals (with_reducible rfl)
                try simp only [Act.put, List.getElem_toArray, List.getElem_cons_succ, List.getElem_cons_zero, List.setIfInBounds_toArray, List.set_cons_zero, List.set_cons_succ]
                refine wpAnyH_take (i := 4) (v := ?_) rfl (by kernel_rfl) (by kernel_rfl) (by kernel_rfl) (fun _ _ _ h => h) (Or.inl ⟨by rfl, ?_⟩) (by assumption) ?_
                rotate_left
                · intro Wq hSw
                  clear hSw
                  go_simp
                  all_goals (with_reducible rfl)
                try simp only [Act.put, List.getElem_toArray, List.getElem_cons_succ, List.getElem_cons_zero, List.setIfInBounds_toArray, List.set_cons_zero, List.set_cons_succ]
                refine wpAnyH_take (i := 5) (v := ?_) rfl (by kernel_rfl) (by kernel_rfl) (by kernel_rfl) (fun _ _ _ h => h) (Or.inl ⟨by rfl, ?_⟩) (by assumption) ?_
                rotate_left
                · intro Wq hSw
                  clear hSw
                  go_simp
                  all_goals (with_reducible rfl)
                try simp only [Act.put, List.getElem_toArray, List.getElem_cons_succ, List.getElem_cons_zero, List.setIfInBounds_toArray, List.set_cons_zero, List.set_cons_succ]
                refine wpAnyH_take (i := 6) (v := ?_) rfl (by kernel_rfl) (by kernel_rfl) (by kernel_rfl) (fun _ _ _ h => h) (Or.inl ⟨by rfl, ?_⟩) (by assumption) ?_
                rotate_left
                · intro Wq hSw
                  have b1 : ((i : Int) < (l.length : Int)) = True := eq_true (by omega)
                  have d1 : (i < l.length) = True := eq_true (by omega)
                  have c1 : ((0 : Int) ≤ (i : Int)) = True := eq_true (by omega)
                  clear hSw
                  go_simp
                  all_goals (with_reducible rfl)
                try simp only [Act.put, List.getElem_toArray, List.getElem_cons_succ, List.getElem_cons_zero, List.setIfInBounds_toArray, List.set_cons_zero, List.set_cons_succ]
                refine wpAnyH_take (i := 7) (v := ?_) rfl (by kernel_rfl) (by kernel_rfl) (by kernel_rfl) (fun _ _ _ h => h) (Or.inl ⟨by rfl, ?_⟩) (by assumption) ?_
                rotate_left
                · intro Wq hSw
                  obtain ⟨k0, k1⟩ := ptRow_at (HL.out.below (bl_trans HBi.out hSw)) hil HT.out
                  clear hSw
                  go_simp
                  all_goals (with_reducible rfl)
                try simp only [Act.put, List.getElem_toArray, List.getElem_cons_succ, List.getElem_cons_zero, List.setIfInBounds_toArray, List.set_cons_zero, List.set_cons_succ]
                refine wpAnyH_take (i := 8) (v := ?_) rfl (by kernel_rfl) (by kernel_rfl) (by kernel_rfl) (fun _ _ _ h => h) (Or.inl ⟨by rfl, ?_⟩) (by assumption) ?_
                rotate_left
                · intro Wq hSw
                  clear hSw
                  go_simp
                  all_goals (with_reducible rfl)
                try simp only [Act.put, List.getElem_toArray, List.getElem_cons_succ, List.getElem_cons_zero, List.setIfInBounds_toArray, List.set_cons_zero, List.set_cons_succ]
                refine wpAnyH_take (i := 9) (v := ?_) rfl (by kernel_rfl) (by kernel_rfl) (by kernel_rfl) (fun _ _ _ h => h) (Or.inl ⟨by rfl, ?_⟩) (by assumption) ?_
                rotate_left
                · intro Wq hSw
                  clear hSw
                  go_simp
                  all_goals (with_reducible rfl)
                try simp only [Act.put, List.getElem_toArray, List.getElem_cons_succ, List.getElem_cons_zero, List.setIfInBounds_toArray, List.set_cons_zero, List.set_cons_succ]
                refine wpAnyH_take (i := 10) (v := _) rfl (by kernel_rfl) (by kernel_rfl) (by kernel_rfl) (fun _ _ _ h => h) (Or.inr ⟨by rfl, rfl⟩) (by assumption) ?_
                try simp only [Act.put, List.getElem_toArray, List.getElem_cons_succ, List.getElem_cons_zero, List.setIfInBounds_toArray, List.set_cons_zero, List.set_cons_succ]
                refine wpAnyH_take (i := 11) (v := _) rfl (by kernel_rfl) (by kernel_rfl) (by kernel_rfl) (fun _ _ _ h => h) (Or.inr ⟨by rfl, rfl⟩) (by assumption) ?_
                try simp only [Act.put, List.getElem_toArray, List.getElem_cons_succ, List.getElem_cons_zero, List.setIfInBounds_toArray, List.set_cons_zero, List.set_cons_succ]
                refine wpAnyH_take (i := 12) (v := _) rfl (by kernel_rfl) (by kernel_rfl) (by kernel_rfl) (fun _ _ _ h => h) (Or.inr ⟨by rfl, rfl⟩) (by assumption) ?_
                try simp only [Act.put, List.getElem_toArray, List.getElem_cons_succ, List.getElem_cons_zero, List.setIfInBounds_toArray, List.set_cons_zero, List.set_cons_succ]
                refine wpAnyH_take (i := 13) (v := _) rfl (by kernel_rfl) (by kernel_rfl) (by kernel_rfl) (fun _ _ _ h => h) (Or.inr ⟨by rfl, rfl⟩) (by assumption) ?_
                try simp only [Act.put, List.getElem_toArray, List.getElem_cons_succ, List.getElem_cons_zero, List.setIfInBounds_toArray, List.set_cons_zero, List.set_cons_succ]
                refine wpAnyH_take (i := 14) (v := _) rfl (by kernel_rfl) (by kernel_rfl) (by kernel_rfl) (fun _ _ _ h => h) (Or.inr ⟨by rfl, rfl⟩) (by assumption) ?_
                try simp only [Act.put, List.getElem_toArray, List.getElem_cons_succ, List.getElem_cons_zero, List.setIfInBounds_toArray, List.set_cons_zero, List.set_cons_succ]
                refine wpAnyH_take (i := 15) (v := _) rfl (by kernel_rfl) (by kernel_rfl) (by kernel_rfl) (fun _ _ _ h => h) (Or.inr ⟨by rfl, rfl⟩) (by assumption) ?_
                try simp only [Act.put, List.getElem_toArray, List.getElem_cons_succ, List.getElem_cons_zero, List.setIfInBounds_toArray, List.set_cons_zero, List.set_cons_succ]
                refine wpAnyH_take (i := 16) (v := _) rfl (by kernel_rfl) (by kernel_rfl) (by kernel_rfl) (fun _ _ _ h => h) (Or.inr ⟨by rfl, rfl⟩) (by assumption) ?_
                try simp only [Act.put, List.getElem_toArray, List.getElem_cons_succ, List.getElem_cons_zero, List.setIfInBounds_toArray, List.set_cons_zero, List.set_cons_succ]
                refine wpAnyH_take (i := 17) (v := _) rfl (by kernel_rfl) (by kernel_rfl) (by kernel_rfl) (fun _ _ _ h => h) (Or.inr ⟨by rfl, rfl⟩) (by assumption) ?_
                try simp only [Act.put, List.getElem_toArray, List.getElem_cons_succ, List.getElem_cons_zero, List.setIfInBounds_toArray, List.set_cons_zero, List.set_cons_succ]
                refine wpAnyH_take (i := 18) (v := _) rfl (by kernel_rfl) (by kernel_rfl) (by kernel_rfl) (fun _ _ _ h => h) (Or.inr ⟨by rfl, rfl⟩) (by assumption) ?_
                try simp only [Act.put, List.getElem_toArray, List.getElem_cons_succ, List.getElem_cons_zero, List.setIfInBounds_toArray, List.set_cons_zero, List.set_cons_succ]
                refine wpAnyH_take (i := 19) (v := _) rfl (by kernel_rfl) (by kernel_rfl) (by kernel_rfl) (fun _ _ _ h => h) (Or.inr ⟨by rfl, rfl⟩) (by assumption) ?_
                try simp only [Act.put, List.getElem_toArray, List.getElem_cons_succ, List.getElem_cons_zero, List.setIfInBounds_toArray, List.set_cons_zero, List.set_cons_succ]
                refine wpAnyH_take (i := 20) (v := _) rfl (by kernel_rfl) (by kernel_rfl) (by kernel_rfl) (fun _ _ _ h => h) (Or.inr ⟨by rfl, rfl⟩) (by assumption) ?_
                try simp only [Act.put, List.getElem_toArray, List.getElem_cons_succ, List.getElem_cons_zero, List.setIfInBounds_toArray, List.set_cons_zero, List.set_cons_succ]
                refine wpAnyH_take (i := 21) (v := _) rfl (by kernel_rfl) (by kernel_rfl) (by kernel_rfl) (fun _ _ _ h => h) (Or.inr ⟨by rfl, rfl⟩) (by assumption) ?_
                try simp only [Act.put, List.getElem_toArray, List.getElem_cons_succ, List.getElem_cons_zero, List.setIfInBounds_toArray, List.set_cons_zero, List.set_cons_succ]
                refine wpAnyH_take (i := 22) (v := _) rfl (by kernel_rfl) (by kernel_rfl) (by kernel_rfl) (fun _ _ _ h => h) (Or.inr ⟨by rfl, rfl⟩) (by assumption) ?_
                try simp only [Act.put, List.getElem_toArray, List.getElem_cons_succ, List.getElem_cons_zero, List.setIfInBounds_toArray, List.set_cons_zero, List.set_cons_succ]
                refine wpAnyH_take (i := 23) (v := _) rfl (by kernel_rfl) (by kernel_rfl) (by kernel_rfl) (fun _ _ _ h => h) (Or.inr ⟨by rfl, rfl⟩) (by assumption) ?_
                try simp only [Act.put, List.getElem_toArray, List.getElem_cons_succ, List.getElem_cons_zero, List.setIfInBounds_toArray, List.set_cons_zero, List.set_cons_succ]
                refine wpAnyH_take (i := 24) (v := _) rfl (by kernel_rfl) (by kernel_rfl) (by kernel_rfl) (fun _ _ _ h => h) (Or.inr ⟨by rfl, rfl⟩) (by assumption) ?_
                try simp only [Act.put, List.getElem_toArray, List.getElem_cons_succ, List.getElem_cons_zero, List.setIfInBounds_toArray, List.set_cons_zero, List.set_cons_succ]
                refine wpAnyH_take (i := 25) (v := _) rfl (by kernel_rfl) (by kernel_rfl) (by kernel_rfl) (fun _ _ _ h => h) (Or.inr ⟨by rfl, rfl⟩) (by assumption) ?_
                try simp only [Act.put, List.getElem_toArray, List.getElem_cons_succ, List.getElem_cons_zero, List.setIfInBounds_toArray, List.set_cons_zero, List.set_cons_succ]
                refine wpAnyH_take (i := 26) (v := ?_) rfl (by kernel_rfl) (by kernel_rfl) (by kernel_rfl) (fun _ _ _ h => h) (Or.inl ⟨by rfl, ?_⟩) (by assumption) ?_
                rotate_left
                · intro Wq hSw
                  clear hSw
                  go_simp
                  all_goals (with_reducible rfl)
                try simp only [Act.put, List.getElem_toArray, List.getElem_cons_succ, List.getElem_cons_zero, List.setIfInBounds_toArray, List.set_cons_zero, List.set_cons_succ]
                refine wpAnyH_done (by kernel_rfl) ?_ _
                go_wp2_with fail
                go_meet
                case rel => exact ⟨by rw [HV.out], hHeld⟩
              case neg =>
                by_cases e3 : sx = ty
                case pos =>
                  by_cases e4 : sy = tx
                  case pos =>
                    have HV : Hid (sm = true) := by have := HSM.out; unfold Hid; cases sm <;> simp_all
                    have b6 : (sx = tx) = True := eq_true e1
                    have b7 : (sy = ty) = False := eq_false e2
                    have b8 : (sx = ty) = True := eq_true e3
                    have b9 : (sy = tx) = True := eq_true e4
                    clear e1 e2 e3 e4
                    refine wp_region_held_drew (S := fun V => Below WC.heap.size WC V) (by kernel_rfl) ?_ (fun hHeld => ?_)
                    · exact bel_drew WC
                    revert hHeld
                    generalize World.drew _ = W1
                    intro hHeld 
                    refine wpAnyH_take (i := 0) (v := ?_) rfl (by kernel_rfl) (by kernel_rfl) (by kernel_rfl) (fun _ _ _ h => h) (Or.inl ⟨by rfl, ?_⟩) (by assumption) ?_
                    rotate_left
                    · intro Wq hSw
                      clear hSw
                      go_simp
                      all_goals (with_reducible rfl)
                    try simp only [Act.put, List.getElem_toArray, List.getElem_cons_zero, List.setIfInBounds_toArray, List.set_cons_zero, List.set_cons_succ]
                    refine wpAnyH_take (i := 1) (v := ?_) rfl (by kernel_rfl) (by kernel_rfl) (by kernel_rfl) (fun _ _ _ h => h) (Or.inl ⟨by rfl, ?_⟩) (by assumption) ?_
                    rotate_left
                    · intro Wq hSw
                      clear hSw
                      go_simp
                      all_goals (with_reducible rfl)
                    try simp only [Act.put, List.getElem_toArray, List.getElem_cons_succ, List.getElem_cons_zero, List.setIfInBounds_toArray, List.set_cons_zero, List.set_cons_succ]
                    refine wpAnyH_take (i := 2) (v := ?_) rfl (by kernel_rfl) (by kernel_rfl) (by kernel_rfl) (fun _ _ _ h => h) (Or.inl ⟨by rfl, ?_⟩) (by assumption) ?_
                    rotate_left
                    · intro Wq hSw
                      have b1 : ((j : Int) < (l.length : Int)) = True := eq_true (by omega)
                      have d1 : (j < l.length) = True := eq_true (by omega)
                      have c1 : ((0 : Int) ≤ (j : Int)) = True := eq_true (by omega)
                      clear hSw
                      go_simp
                      all_goals (with_reducible rfl)
                    try simp only [Act.put, List.getElem_toArray, List.getElem_cons_succ, List.getElem_cons_zero, List.setIfInBounds_toArray, List.set_cons_zero, List.set_cons_succ]
                    refine wpAnyH_take (i := 3) (v := ?_) rfl (by kernel_rfl) (by kernel_rfl) (by kernel_rfl) (fun _ _ _ h => h) (Or.inl ⟨by rfl, ?_⟩) (by assumption) ?_
                    rotate_left
                    · intro Wq hSw
                      obtain ⟨k0, k1⟩ := ptRow_at (HS8.out.below (bl_trans HBi.out hSw)) hjS HS.out
                      clear hSw
                      go_simp
                      all_goals (with_reducible rfl)
                    try simp only [Act.put, List.getElem_toArray, List.getElem_cons_succ, List.getElem_cons_zero, List.setIfInBounds_toArray, List.set_cons_zero, List.set_cons_succ]
                    refine wpAnyH_take (i := 4) (v := ?_) rfl (by kernel_rfl) (by kernel_rfl) (by kernel_rfl) (fun _ _ _ h => h) (Or.inl ⟨by rfl, ?_⟩) (by assumption) ?_
                    rotate_left
                    · intro Wq hSw
                      clear hSw
                      go_simp
                      all_goals (with_reducible rfl)
                    try simp only [Act.put, List.getElem_toArray, List.getElem_cons_succ, List.getElem_cons_zero, List.setIfInBounds_toArray, List.set_cons_zero, List.set_cons_succ]
                    refine wpAnyH_take (i := 5) (v := ?_) rfl (by kernel_rfl) (by kernel_rfl) (by kernel_rfl) (fun _ _ _ h => h) (Or.inl ⟨by rfl, ?_⟩) (by assumption) ?_
                    rotate_left
                    · intro Wq hSw
                      clear hSw
                      go_simp
                      all_goals (with_reducible rfl)
                    try simp only [Act.put, List.getElem_toArray, List.getElem_cons_succ, List.getElem_cons_zero, List.setIfInBounds_toArray, List.set_cons_zero, List.set_cons_succ]
                    refine wpAnyH_take (i := 6) (v := ?_) rfl (by kernel_rfl) (by kernel_rfl) (by kernel_rfl) (fun _ _ _ h => h) (Or.inl ⟨by rfl, ?_⟩) (by assumption) ?_
                    rotate_left
                    · intro Wq hSw
                      have b1 : ((i : Int) < (l.length : Int)) = True := eq_true (by omega)
                      have d1 : (i < l.length) = True := eq_true (by omega)
                      have c1 : ((0 : Int) ≤ (i : Int)) = True := eq_true (by omega)
                      clear hSw
                      go_simp
                      all_goals (with_reducible rfl)
                    try simp only [Act.put, List.getElem_toArray, List.getElem_cons_succ, List.getElem_cons_zero, List.setIfInBounds_toArray, List.set_cons_zero, List.set_cons_succ]
                    refine wpAnyH_take (i := 7) (v := ?_) rfl (by kernel_rfl) (by kernel_rfl) (by kernel_rfl) (fun _ _ _ h => h) (Or.inl ⟨by rfl, ?_⟩) (by assumption) ?_
                    rotate_left
                    · intro Wq hSw
                      obtain ⟨k0, k1⟩ := ptRow_at (HL.out.below (bl_trans HBi.out hSw)) hil HT.out
                      clear hSw
                      go_simp
                      all_goals (with_reducible rfl)
                    try simp only [Act.put, List.getElem_toArray, List.getElem_cons_succ, List.getElem_cons_zero, List.setIfInBounds_toArray, List.set_cons_zero, List.set_cons_succ]
                    refine wpAnyH_take (i := 8) (v := ?_) rfl (by kernel_rfl) (by kernel_rfl) (by kernel_rfl) (fun _ _ _ h => h) (Or.inl ⟨by rfl, ?_⟩) (by assumption) ?_
                    rotate_left
                    · intro Wq hSw
                      clear hSw
                      go_simp
                      all_goals (with_reducible rfl)
                    try simp only [Act.put, List.getElem_toArray, List.getElem_cons_succ, List.getElem_cons_zero, List.setIfInBounds_toArray, List.set_cons_zero, List.set_cons_succ]
                    refine wpAnyH_take (i := 9) (v := ?_) rfl (by kernel_rfl) (by kernel_rfl) (by kernel_rfl) (fun _ _ _ h => h) (Or.inl ⟨by rfl, ?_⟩) (by assumption) ?_
                    rotate_left
                    · intro Wq hSw
                      clear hSw
                      go_simp
                      all_goals (with_reducible rfl)
                    try simp only [Act.put, List.getElem_toArray, List.getElem_cons_succ, List.getElem_cons_zero, List.setIfInBounds_toArray, List.set_cons_zero, List.set_cons_succ]
                    refine wpAnyH_take (i := 10) (v := ?_) rfl (by kernel_rfl) (by kernel_rfl) (by kernel_rfl) (fun _ _ _ h => h) (Or.inl ⟨by rfl, ?_⟩) (by assumption) ?_
                    rotate_left
                    · intro Wq hSw
                      clear hSw
                      go_simp
                      all_goals (with_reducible rfl)
                    try simp only [Act.put, List.getElem_toArray, List.getElem_cons_succ, List.getElem_cons_zero, List.setIfInBounds_toArray, List.set_cons_zero, List.set_cons_succ]
                    refine wpAnyH_take (i := 11) (v := ?_) rfl (by kernel_rfl) (by kernel_rfl) (by kernel_rfl) (fun _ _ _ h => h) (Or.inl ⟨by rfl, ?_⟩) (by assumption) ?_
                    rotate_left
                    · intro Wq hSw
                      clear hSw
                      go_simp
                      all_goals (with_reducible rfl)
                    try simp only [Act.put, List.getElem_toArray, List.getElem_cons_succ, List.getElem_cons_zero, List.setIfInBounds_toArray, List.set_cons_zero, List.set_cons_succ]
                    refine wpAnyH_take (i := 12) (v := ?_) rfl (by kernel_rfl) (by kernel_rfl) (by kernel_rfl) (fun _ _ _ h => h) (Or.inl ⟨by rfl, ?_⟩) (by assumption) ?_
                    rotate_left
                    · intro Wq hSw
                      have b1 : ((j : Int) < (l.length : Int)) = True := eq_true (by omega)
                      have d1 : (j < l.length) = True := eq_true (by omega)
                      have c1 : ((0 : Int) ≤ (j : Int)) = True := eq_true (by omega)
                      clear hSw
                      go_simp
                      all_goals (with_reducible rfl)
                    try simp only [Act.put, List.getElem_toArray, List.getElem_cons_succ, List.getElem_cons_zero, List.setIfInBounds_toArray, List.set_cons_zero, List.set_cons_succ]
                    refine wpAnyH_take (i := 13) (v := ?_) rfl (by kernel_rfl) (by kernel_rfl) (by kernel_rfl) (fun _ _ _ h => h) (Or.inl ⟨by rfl, ?_⟩) (by assumption) ?_
                    rotate_left
                    · intro Wq hSw
                      obtain ⟨k0, k1⟩ := ptRow_at (HS8.out.below (bl_trans HBi.out hSw)) hjS HS.out
                      clear hSw
                      go_simp
                      all_goals (with_reducible rfl)
                    try simp only [Act.put, List.getElem_toArray, List.getElem_cons_succ, List.getElem_cons_zero, List.setIfInBounds_toArray, List.set_cons_zero, List.set_cons_succ]
                    refine wpAnyH_take (i := 14) (v := ?_) rfl (by kernel_rfl) (by kernel_rfl) (by kernel_rfl) (fun _ _ _ h => h) (Or.inl ⟨by rfl, ?_⟩) (by assumption) ?_
                    rotate_left
                    · intro Wq hSw
                      clear hSw
                      go_simp
                      all_goals (with_reducible rfl)
                    try simp only [Act.put, List.getElem_toArray, List.getElem_cons_succ, List.getElem_cons_zero, List.setIfInBounds_toArray, List.set_cons_zero, List.set_cons_succ]
                    refine wpAnyH_take (i := 15) (v := ?_) rfl (by kernel_rfl) (by kernel_rfl) (by kernel_rfl) (fun _ _ _ h => h) (Or.inl ⟨by rfl, ?_⟩) (by assumption) ?_
                    rotate_left
                    · intro Wq hSw
                      clear hSw
                      go_simp
                      all_goals (with_reducible rfl)
                    try simp only [Act.put, List.getElem_toArray, List.getElem_cons_succ, List.getElem_cons_zero, List.setIfInBounds_toArray, List.set_cons_zero, List.set_cons_succ]
                    refine wpAnyH_take (i := 16) (v := ?_) rfl (by kernel_rfl) (by kernel_rfl) (by kernel_rfl) (fun _ _ _ h => h) (Or.inl ⟨by rfl, ?_⟩) (by assumption) ?_
                    rotate_left
                    · intro Wq hSw
                      have b1 : ((i : Int) < (l.length : Int)) = True := eq_true (by omega)
                      have d1 : (i < l.length) = True := eq_true (by omega)
                      have c1 : ((0 : Int) ≤ (i : Int)) = True := eq_true (by omega)
                      clear hSw
                      go_simp
                      all_goals (with_reducible rfl)
                    try simp only [Act.put, List.getElem_toArray, List.getElem_cons_succ, List.getElem_cons_zero, List.setIfInBounds_toArray, List.set_cons_zero, List.set_cons_succ]
                    refine wpAnyH_take (i := 17) (v := ?_) rfl (by kernel_rfl) (by kernel_rfl) (by kernel_rfl) (fun _ _ _ h => h) (Or.inl ⟨by rfl, ?_⟩) (by assumption) ?_
                    rotate_left
                    · intro Wq hSw
                      clear hSw
                      go_simp
                      all_goals (with_reducible rfl)
                    try simp only [Act.put, List.getElem_toArray, List.getElem_cons_succ, List.getElem_cons_zero, List.setIfInBounds_toArray, List.set_cons_zero, List.set_cons_succ]
                    refine wpAnyH_take (i := 18) (v := ?_) rfl (by kernel_rfl) (by kernel_rfl) (by kernel_rfl) (fun _ _ _ h => h) (Or.inl ⟨by rfl, ?_⟩) (by assumption) ?_
                    rotate_left
                    · intro Wq hSw
                      obtain ⟨k0, k1⟩ := ptRow_at (HL.out.below (bl_trans HBi.out hSw)) hil HT.out
                      clear hSw
                      go_simp
                      all_goals (with_reducible rfl)
                    try simp only [Act.put, List.getElem_toArray, List.getElem_cons_succ, List.getElem_cons_zero, List.setIfInBounds_toArray, List.set_cons_zero, List.set_cons_succ]
                    refine wpAnyH_take (i := 19) (v := ?_) rfl (by kernel_rfl) (by kernel_rfl) (by kernel_rfl) (fun _ _ _ h => h) (Or.inl ⟨by rfl, ?_⟩) (by assumption) ?_
                    rotate_left
                    · intro Wq hSw
                      clear hSw
                      go_simp
                      all_goals (with_reducible rfl)
                    try simp only [Act.put, List.getElem_toArray, List.getElem_cons_succ, List.getElem_cons_zero, List.setIfInBounds_toArray, List.set_cons_zero, List.set_cons_succ]
                    refine wpAnyH_take (i := 20) (v := ?_) rfl (by kernel_rfl) (by kernel_rfl) (by kernel_rfl) (fun _ _ _ h => h) (Or.inl ⟨by rfl, ?_⟩) (by assumption) ?_
                    rotate_left
                    · intro Wq hSw
                      clear hSw
                      go_simp
                      all_goals (with_reducible rfl)
                    try simp only [Act.put, List.getElem_toArray, List.getElem_cons_succ, List.getElem_cons_zero, List.setIfInBounds_toArray, List.set_cons_zero, List.set_cons_succ]
                    refine wpAnyH_take (i := 21) (v := ?_) rfl (by kernel_rfl) (by kernel_rfl) (by kernel_rfl) (fun _ _ _ h => h) (Or.inl ⟨by rfl, ?_⟩) (by assumption) ?_
                    rotate_left
                    · intro Wq hSw
                      have b1 : ((i : Int) < (l.length : Int)) = True := eq_true (by omega)
                      have d1 : (i < l.length) = True := eq_true (by omega)
                      have c1 : ((0 : Int) ≤ (i : Int)) = True := eq_true (by omega)
                      clear hSw
                      go_simp
                      all_goals (with_reducible rfl)
                    try simp only [Act.put, List.getElem_toArray, List.getElem_cons_succ, List.getElem_cons_zero, List.setIfInBounds_toArray, List.set_cons_zero, List.set_cons_succ]
                    refine wpAnyH_take (i := 22) (v := ?_) rfl (by kernel_rfl) (by kernel_rfl) (by kernel_rfl) (fun _ _ _ h => h) (Or.inl ⟨by rfl, ?_⟩) (by assumption) ?_
                    rotate_left
                    · intro Wq hSw
                      clear hSw
                      go_simp
                      all_goals (with_reducible rfl)
                    try simp only [Act.put, List.getElem_toArray, List.getElem_cons_succ, List.getElem_cons_zero, List.setIfInBounds_toArray, List.set_cons_zero, List.set_cons_succ]
                    refine wpAnyH_take (i := 23) (v := ?_) rfl (by kernel_rfl) (by kernel_rfl) (by kernel_rfl) (fun _ _ _ h => h) (Or.inl ⟨by rfl, ?_⟩) (by assumption) ?_
                    rotate_left
                    · intro Wq hSw
                      obtain ⟨k0, k1⟩ := ptRow_at (HL.out.below (bl_trans HBi.out hSw)) hil HT.out
                      clear hSw
                      go_simp
                      all_goals (with_reducible rfl)
                    try simp only [Act.put, List.getElem_toArray, List.getElem_cons_succ, List.getElem_cons_zero, List.setIfInBounds_toArray, List.set_cons_zero, List.set_cons_succ]
                    refine wpAnyH_take (i := 24) (v := ?_) rfl (by kernel_rfl) (by kernel_rfl) (by kernel_rfl) (fun _ _ _ h => h) (Or.inl ⟨by rfl, ?_⟩) (by assumption) ?_
                    rotate_left
                    · intro Wq hSw
                      clear hSw
                      go_simp
                      all_goals (with_reducible rfl)
                    try simp only [Act.put, List.getElem_toArray, List.getElem_cons_succ, List.getElem_cons_zero, List.setIfInBounds_toArray, List.set_cons_zero, List.set_cons_succ]
                    refine wpAnyH_take (i := 25) (v := ?_) rfl (by kernel_rfl) (by kernel_rfl) (by kernel_rfl) (fun _ _ _ h => h) (Or.inl ⟨by rfl, ?_⟩) (by assumption) ?_
                    rotate_left
                    · intro Wq hSw
                      clear hSw
                      go_simp
                      all_goals (with_reducible rfl)
                    try simp only [Act.put, List.getElem_toArray, List.getElem_cons_succ, List.getElem_cons_zero, List.setIfInBounds_toArray, List.set_cons_zero, List.set_cons_succ]
                    refine wpAnyH_take (i := 26) (v := ?_) rfl (by kernel_rfl) (by kernel_rfl) (by kernel_rfl) (fun _ _ _ h => h) (Or.inl ⟨by rfl, ?_⟩) (by assumption) ?_
                    rotate_left
                    · intro Wq hSw
                      clear hSw
                      go_simp
                      all_goals (with_reducible rfl)
                    try simp only [Act.put, List.getElem_toArray, List.getElem_cons_succ, List.getElem_cons_zero, List.setIfInBounds_toArray, List.set_cons_zero, List.set_cons_succ]
                    refine wpAnyH_done (by kernel_rfl) ?_ _
                    go_wp2_with fail
                    go_meet
                    case rel => exact ⟨by rw [HV.out], hHeld⟩
                  case neg =>
                    have HV : Hid (sm = false) := by have := HSM.out; unfold Hid; cases sm <;> simp_all
                    have b6 : (sx = tx) = True := eq_true e1
                    have b7 : (sy = ty) = False := eq_false e2
                    have b8 : (sx = ty) = True := eq_true e3
                    have b9 : (sy = tx) = False := eq_false e4
                    clear e1 e2 e3 e4
                    refine wp_region_held_drew (S := fun V => Below WC.heap.size WC V) (by kernel_rfl) ?_ (fun hHeld => ?_)
                    · exact bel_drew WC
                    revert hHeld
                    generalize World.drew _ = W1
                    intro hHeld 
                    refine wpAnyH_take (i := 0) (v := ?_) rfl (by kernel_rfl) (by kernel_rfl) (by kernel_rfl) (fun _ _ _ h => h) (Or.inl ⟨by rfl, ?_⟩) (by assumption) ?_
                    rotate_left
                    · intro Wq hSw
                      clear hSw
                      go_simp
                      all_goals (with_reducible rfl)
                    try simp only [Act.put, List.getElem_toArray, List.getElem_cons_zero, List.setIfInBounds_toArray, List.set_cons_zero, List.set_cons_succ]
                    refine wpAnyH_take (i := 1) (v := ?_) rfl (by kernel_rfl) (by kernel_rfl) (by kernel_rfl) (fun _ _ _ h => h) (Or.inl ⟨by rfl, ?_⟩) (by assumption) ?_
                    rotate_left
                    · intro Wq hSw
                      clear hSw
                      go_simp
                      all_goals (with_reducible rfl)
                    try simp only [Act.put, List.getElem_toArray, List.getElem_cons_succ, List.getElem_cons_zero, List.setIfInBounds_toArray, List.set_cons_zero, List.set_cons_succ]
                    refine wpAnyH_take (i := 2) (v := ?_) rfl (by kernel_rfl) (by kernel_rfl) (by kernel_rfl) (fun _ _ _ h => h) (Or.inl ⟨by rfl, ?_⟩) (by assumption) ?_
                    rotate_left
                    · intro Wq hSw
                      have b1 : ((j : Int) < (l.length : Int)) = True := eq_true (by omega)
                      have d1 : (j < l.length) = True := eq_true (by omega)
                      have c1 : ((0 : Int) ≤ (j : Int)) = True := eq_true (by omega)
                      clear hSw
                      go_simp
                      all_goals (with_reducible rfl)
                    try simp only [Act.put, List.getElem_toArray, List.getElem_cons_succ, List.getElem_cons_zero, List.setIfInBounds_toArray, List.set_cons_zero, List.set_cons_succ]
                    refine wpAnyH_take (i := 3) (v := ?_) rfl (by kernel_rfl) (by kernel_rfl) (by kernel_rfl) (fun _ _ _ h => h) (Or.inl ⟨by rfl, ?_⟩) (by assumption) ?_
                    rotate_left
                    · intro Wq hSw
                      obtain ⟨k0, k1⟩ := ptRow_at (HS8.out.below (bl_trans HBi.out hSw)) hjS HS.out
                      clear hSw
                      go_simp
                      all_goals (with_reducible rfl)
                    try simp only [Act.put, List.getElem_toArray, List.getElem_cons_succ, List.getElem_cons_zero, List.setIfInBounds_toArray, List.set_cons_zero, List.set_cons_succ]
                    refine wpAnyH_take (i := 4) (v := ?_) rfl (by kernel_rfl) (by kernel_rfl) (by kernel_rfl) (fun _ _ _ h => h) (Or.inl ⟨by rfl, ?_⟩) (by assumption) ?_
                    rotate_left
                    · intro Wq hSw
                      clear hSw
                      go_simp
                      all_goals (with_reducible rfl)
                    try simp only [Act.put, List.getElem_toArray, List.getElem_cons_succ, List.getElem_cons_zero, List.setIfInBounds_toArray, List.set_cons_zero, List.set_cons_succ]
                    refine wpAnyH_take (i := 5) (v := ?_) rfl (by kernel_rfl) (by kernel_rfl) (by kernel_rfl) (fun _ _ _ h => h) (Or.inl ⟨by rfl, ?_⟩) (by assumption) ?_
                    rotate_left
                    · intro Wq hSw
                      clear hSw
                      go_simp
                      all_goals (with_reducible rfl)
                    try simp only [Act.put, List.getElem_toArray, List.getElem_cons_succ, List.getElem_cons_zero, List.setIfInBounds_toArray, List.set_cons_zero, List.set_cons_succ]
                    refine wpAnyH_take (i := 6) (v := ?_) rfl (by kernel_rfl) (by kernel_rfl) (by kernel_rfl) (fun _ _ _ h => h) (Or.inl ⟨by rfl, ?_⟩) (by assumption) ?_
                    rotate_left
                    · intro Wq hSw
                      have b1 : ((i : Int) < (l.length : Int)) = True := eq_true (by omega)
                      have d1 : (i < l.length) = True := eq_true (by omega)
                      have c1 : ((0 : Int) ≤ (i : Int)) = True := eq_true (by omega)
                      clear hSw
                      go_simp
                      all_goals (with_reducible rfl)
                    try simp only [Act.put, List.getElem_toArray, List.getElem_cons_succ, List.getElem_cons_zero, List.setIfInBounds_toArray, List.set_cons_zero, List.set_cons_succ]
                    refine wpAnyH_take (i := 7) (v := ?_) rfl (by kernel_rfl) (by kernel_rfl) (by kernel_rfl) (fun _ _ _ h => h) (Or.inl ⟨by rfl, ?_⟩) (by assumption) ?_
                    rotate_left
                    · intro Wq hSw
                      obtain ⟨k0, k1⟩ := ptRow_at (HL.out.below (bl_trans HBi.out hSw)) hil HT.out
                      clear hSw
                      go_simp
                      all_goals (with_reducible rfl)
                    try simp only [Act.put, List.getElem_toArray, List.getElem_cons_succ, List.getElem_cons_zero, List.setIfInBounds_toArray, List.set_cons_zero, List.set_cons_succ]
                    refine wpAnyH_take (i := 8) (v := ?_) rfl (by kernel_rfl) (by kernel_rfl) (by kernel_rfl) (fun _ _ _ h => h) (Or.inl ⟨by rfl, ?_⟩) (by assumption) ?_
                    rotate_left
                    · intro Wq hSw
                      clear hSw
                      go_simp
                      all_goals (with_reducible rfl)
                    try simp only [Act.put, List.getElem_toArray, List.getElem_cons_succ, List.getElem_cons_zero, List.setIfInBounds_toArray, List.set_cons_zero, List.set_cons_succ]
                    refine wpAnyH_take (i := 9) (v := ?_) rfl (by kernel_rfl) (by kernel_rfl) (by kernel_rfl) (fun _ _ _ h => h) (Or.inl ⟨by rfl, ?_⟩) (by assumption) ?_
                    rotate_left
                    · intro Wq hSw
                      clear hSw
                      go_simp
                      all_goals (with_reducible rfl)
                    try simp only [Act.put, List.getElem_toArray, List.getElem_cons_succ, List.getElem_cons_zero, List.setIfInBounds_toArray, List.set_cons_zero, List.set_cons_succ]
                    refine wpAnyH_take (i := 10) (v := ?_) rfl (by kernel_rfl) (by kernel_rfl) (by kernel_rfl) (fun _ _ _ h => h) (Or.inl ⟨by rfl, ?_⟩) (by assumption) ?_
                    rotate_left
                    · intro Wq hSw
                      clear hSw
                      go_simp
                      all_goals (with_reducible rfl)
                    try simp only [Act.put, List.getElem_toArray, List.getElem_cons_succ, List.getElem_cons_zero, List.setIfInBounds_toArray, List.set_cons_zero, List.set_cons_succ]
                    refine wpAnyH_take (i := 11) (v := ?_) rfl (by kernel_rfl) (by kernel_rfl) (by kernel_rfl) (fun _ _ _ h => h) (Or.inl ⟨by rfl, ?_⟩) (by assumption) ?_
                    rotate_left
                    · intro Wq hSw
                      clear hSw
                      go_simp
                      all_goals (with_reducible rfl)
                    try simp only [Act.put, List.getElem_toArray, List.getElem_cons_succ, List.getElem_cons_zero, List.setIfInBounds_toArray, List.set_cons_zero, List.set_cons_succ]
                    refine wpAnyH_take (i := 12) (v := ?_) rfl (by kernel_rfl) (by kernel_rfl) (by kernel_rfl) (fun _ _ _ h => h) (Or.inl ⟨by rfl, ?_⟩) (by assumption) ?_
                    rotate_left
                    · intro Wq hSw
                      have b1 : ((j : Int) < (l.length : Int)) = True := eq_true (by omega)
                      have d1 : (j < l.length) = True := eq_true (by omega)
                      have c1 : ((0 : Int) ≤ (j : Int)) = True := eq_true (by omega)
                      clear hSw
                      go_simp
                      all_goals (with_reducible rfl)
                    try simp only [Act.put, List.getElem_toArray, List.getElem_cons_succ, List.getElem_cons_zero, List.setIfInBounds_toArray, List.set_cons_zero, List.set_cons_succ]
                    refine wpAnyH_take (i := 13) (v := ?_) rfl (by kernel_rfl) (by kernel_rfl) (by kernel_rfl) (fun _ _ _ h => h) (Or.inl ⟨by rfl, ?_⟩) (by assumption) ?_
                    rotate_left
                    · intro Wq hSw
                      obtain ⟨k0, k1⟩ := ptRow_at (HS8.out.below (bl_trans HBi.out hSw)) hjS HS.out
                      clear hSw
                      go_simp
                      all_goals (with_reducible rfl)
                    try simp only [Act.put, List.getElem_toArray, List.getElem_cons_succ, List.getElem_cons_zero, List.setIfInBounds_toArray, List.set_cons_zero, List.set_cons_succ]
                    refine wpAnyH_take (i := 14) (v := ?_) rfl (by kernel_rfl) (by kernel_rfl) (by kernel_rfl) (fun _ _ _ h => h) (Or.inl ⟨by rfl, ?_⟩) (by assumption) ?_
                    rotate_left
                    · intro Wq hSw
                      clear hSw
                      go_simp
                      all_goals (with_reducible rfl)
                    try simp only [Act.put, List.getElem_toArray, List.getElem_cons_succ, List.getElem_cons_zero, List.setIfInBounds_toArray, List.set_cons_zero, List.set_cons_succ]
                    refine wpAnyH_take (i := 15) (v := ?_) rfl (by kernel_rfl) (by kernel_rfl) (by kernel_rfl) (fun _ _ _ h => h) (Or.inl ⟨by rfl, ?_⟩) (by assumption) ?_
                    rotate_left
                    · intro Wq hSw
                      clear hSw
                      go_simp
                      all_goals (with_reducible rfl)
                    try simp only [Act.put, List.getElem_toArray, List.getElem_cons_succ, List.getElem_cons_zero, List.setIfInBounds_toArray, List.set_cons_zero, List.set_cons_succ]
                    refine wpAnyH_take (i := 16) (v := ?_) rfl (by kernel_rfl) (by kernel_rfl) (by kernel_rfl) (fun _ _ _ h => h) (Or.inl ⟨by rfl, ?_⟩) (by assumption) ?_
                    rotate_left
                    · intro Wq hSw
                      have b1 : ((i : Int) < (l.length : Int)) = True := eq_true (by omega)
                      have d1 : (i < l.length) = True := eq_true (by omega)
                      have c1 : ((0 : Int) ≤ (i : Int)) = True := eq_true (by omega)
                      clear hSw
                      go_simp
                      all_goals (with_reducible rfl)
                    try simp only [Act.put, List.getElem_toArray, List.getElem_cons_succ, List.getElem_cons_zero, List.setIfInBounds_toArray, List.set_cons_zero, List.set_cons_succ]
                    refine wpAnyH_take (i := 17) (v := ?_) rfl (by kernel_rfl) (by kernel_rfl) (by kernel_rfl) (fun _ _ _ h => h) (Or.inl ⟨by rfl, ?_⟩) (by assumption) ?_
                    rotate_left
                    · intro Wq hSw
                      clear hSw
                      go_simp
                      all_goals (with_reducible rfl)
                    try simp only [Act.put, List.getElem_toArray, List.getElem_cons_succ, List.getElem_cons_zero, List.setIfInBounds_toArray, List.set_cons_zero, List.set_cons_succ]
                    refine wpAnyH_take (i := 18) (v := ?_) rfl (by kernel_rfl) (by kernel_rfl) (by kernel_rfl) (fun _ _ _ h => h) (Or.inl ⟨by rfl, ?_⟩) (by assumption) ?_
                    rotate_left
                    · intro Wq hSw
                      obtain ⟨k0, k1⟩ := ptRow_at (HL.out.below (bl_trans HBi.out hSw)) hil HT.out
                      clear hSw
                      go_simp
                      all_goals (with_reducible rfl)
                    try simp only [Act.put, List.getElem_toArray, List.getElem_cons_succ, List.getElem_cons_zero, List.setIfInBounds_toArray, List.set_cons_zero, List.set_cons_succ]
                    refine wpAnyH_take (i := 19) (v := ?_) rfl (by kernel_rfl) (by kernel_rfl) (by kernel_rfl) (fun _ _ _ h => h) (Or.inl ⟨by rfl, ?_⟩) (by assumption) ?_
                    rotate_left
                    · intro Wq hSw
                      clear hSw
                      go_simp
                      all_goals (with_reducible rfl)
                    try simp only [Act.put, List.getElem_toArray, List.getElem_cons_succ, List.getElem_cons_zero, List.setIfInBounds_toArray, List.set_cons_zero, List.set_cons_succ]
                    refine wpAnyH_take (i := 20) (v := ?_) rfl (by kernel_rfl) (by kernel_rfl) (by kernel_rfl) (fun _ _ _ h => h) (Or.inl ⟨by rfl, ?_⟩) (by assumption) ?_
                    rotate_left
                    · intro Wq hSw
                      clear hSw
                      go_simp
                      all_goals (with_reducible rfl)
                    try simp only [Act.put, List.getElem_toArray, List.getElem_cons_succ, List.getElem_cons_zero, List.setIfInBounds_toArray, List.set_cons_zero, List.set_cons_succ]
                    refine wpAnyH_take (i := 21) (v := ?_) rfl (by kernel_rfl) (by kernel_rfl) (by kernel_rfl) (fun _ _ _ h => h) (Or.inl ⟨by rfl, ?_⟩) (by assumption) ?_
                    rotate_left
                    · intro Wq hSw
                      have b1 : ((i : Int) < (l.length : Int)) = True := eq_true (by omega)
                      have d1 : (i < l.length) = True := eq_true (by omega)
                      have c1 : ((0 : Int) ≤ (i : Int)) = True := eq_true (by omega)
                      clear hSw
                      go_simp
                      all_goals (with_reducible rfl)
                    try simp only [Act.put, List.getElem_toArray, List.getElem_cons_succ, List.getElem_cons_zero, List.setIfInBounds_toArray, List.set_cons_zero, List.set_cons_succ]
                    refine wpAnyH_take (i := 22) (v := ?_) rfl (by kernel_rfl) (by kernel_rfl) (by kernel_rfl) (fun _ _ _ h => h) (Or.inl ⟨by rfl, ?_⟩) (by assumption) ?_
                    rotate_left
                    · intro Wq hSw
                      clear hSw
                      go_simp
                      all_goals (with_reducible rfl)
                    try simp only [Act.put, List.getElem_toArray, List.getElem_cons_succ, List.getElem_cons_zero, List.setIfInBounds_toArray, List.set_cons_zero, List.set_cons_succ]
                    refine wpAnyH_take (i := 23) (v := ?_) rfl (by kernel_rfl) (by kernel_rfl) (by kernel_rfl) (fun _ _ _ h => h) (Or.inl ⟨by rfl, ?_⟩) (by assumption) ?_
                    rotate_left
                    · intro Wq hSw
                      obtain ⟨k0, k1⟩ := ptRow_at (HL.out.below (bl_trans HBi.out hSw)) hil HT.out
                      clear hSw
                      go_simp
                      all_goals (with_reducible rfl)
                    try simp only [Act.put, List.getElem_toArray, List.getElem_cons_succ, List.getElem_cons_zero, List.setIfInBounds_toArray, List.set_cons_zero, List.set_cons_succ]
                    refine wpAnyH_take (i := 24) (v := ?_) rfl (by kernel_rfl) (by kernel_rfl) (by kernel_rfl) (fun _ _ _ h => h) (Or.inl ⟨by rfl, ?_⟩) (by assumption) ?_
                    rotate_left
                    · intro Wq hSw
                      clear hSw
                      go_simp
                      all_goals (with_reducible rfl)
                    try simp only [Act.put, List.getElem_toArray, List.getElem_cons_succ, List.getElem_cons_zero, List.setIfInBounds_toArray, List.set_cons_zero, List.set_cons_succ]
                    refine wpAnyH_take (i := 25) (v := ?_) rfl (by kernel_rfl) (by kernel_rfl) (by kernel_rfl) (fun _ _ _ h => h) (Or.inl ⟨by rfl, ?_⟩) (by assumption) ?_
                    rotate_left
                    · intro Wq hSw
                      clear hSw
                      go_simp
                      all_goals (with_reducible rfl)
                    try simp only [Act.put, List.getElem_toArray, List.getElem_cons_succ, List.getElem_cons_zero, List.setIfInBounds_toArray, List.set_cons_zero, List.set_cons_succ]
                    refine wpAnyH_take (i := 26) (v := ?_) rfl (by kernel_rfl) (by kernel_rfl) (by kernel_rfl) (fun _ _ _ h => h) (Or.inl ⟨by rfl, ?_⟩) (by assumption) ?_
                    rotate_left
                    · intro Wq hSw
                      clear hSw
                      go_simp
                      all_goals (with_reducible rfl)
                    try simp only [Act.put, List.getElem_toArray, List.getElem_cons_succ, List.getElem_cons_zero, List.setIfInBounds_toArray, List.set_cons_zero, List.set_cons_succ]
                    refine wpAnyH_done (by kernel_rfl) ?_ _
                    go_wp2_with fail
                    go_meet
                    case rel => exact ⟨by rw [HV.out], hHeld⟩
                case neg =>
                  have HV : Hid (sm = false) := by have := HSM.out; unfold Hid; cases sm <;> simp_all
                  have b6 : (sx = tx) = True := eq_true e1
                  have b7 : (sy = ty) = False := eq_false e2
                  have b8 : (sx = ty) = False := eq_false e3
                  clear e1 e2 e3
                  refine wp_region_held_drew (S := fun V => Below WC.heap.size WC V) (by kernel_rfl) ?_ (fun hHeld => ?_)
                  · exact bel_drew WC
                  revert hHeld
                  generalize World.drew _ = W1
                  intro hHeld 
                  refine wpAnyH_take (i := 0) (v := ?_) rfl (by kernel_rfl) (by kernel_rfl) (by kernel_rfl) (fun _ _ _ h => h) (Or.inl ⟨by rfl, ?_⟩) (by assumption) ?_
                  rotate_left
                  · intro Wq hSw
                    clear hSw
                    go_simp
                    all_goals (with_reducible rfl)
                  try simp only [Act.put, List.getElem_toArray, List.getElem_cons_zero, List.setIfInBounds_toArray, List.set_cons_zero, List.set_cons_succ]
                  refine wpAnyH_take (i := 1) (v := ?_) rfl (by kernel_rfl) (by kernel_rfl) (by kernel_rfl) (fun _ _ _ h => h) (Or.inl ⟨by rfl, ?_⟩) (by assumption) ?_
                  rotate_left
                  · intro Wq hSw
                    clear hSw
                    go_simp
                    all_goals (with_reducible rfl)
                  try simp only [Act.put, List.getElem_toArray, List.getElem_cons_succ, List.getElem_cons_zero, List.setIfInBounds_toArray, List.set_cons_zero, List.set_cons_succ]
                  refine wpAnyH_take (i := 2) (v := ?_) rfl (by kernel_rfl) (by kernel_rfl) (by kernel_rfl) (fun _ _ _ h => h) (Or.inl ⟨by rfl, ?_⟩) (by assumption) ?_
                  rotate_left
                  · intro Wq hSw
                    have b1 : ((j : Int) < (l.length : Int)) = True := eq_true (by omega)
                    have d1 : (j < l.length) = True := eq_true (by omega)
                    have c1 : ((0 : Int) ≤ (j : Int)) = True := eq_true (by omega)
                    clear hSw
                    go_simp
                    all_goals (with_reducible rfl)
                  try simp only [Act.put, List.getElem_toArray, List.getElem_cons_succ, List.getElem_cons_zero, List.setIfInBounds_toArray, List.set_cons_zero, List.set_cons_succ]
                  refine wpAnyH_take (i := 3) (v := ?_) rfl (by kernel_rfl) (by kernel_rfl) (by kernel_rfl) (fun _ _ _ h => h) (Or.inl ⟨by rfl, ?_⟩) (by assumption) ?_
                  rotate_left
                  · intro Wq hSw
                    obtain ⟨k0, k1⟩ := ptRow_at (HS8.out.below (bl_trans HBi.out hSw)) hjS HS.out
                    clear hSw
                    go_simp
                    all_goals (with_reducible rfl)
                  try simp only [Act.put, List.getElem_toArray, List.getElem_cons_succ, List.getElem_cons_zero, List.setIfInBounds_toArray, List.set_cons_zero, List.set_cons_succ]
                  refine wpAnyH_take (i := 4) (v := ?_) rfl (by kernel_rfl) (by kernel_rfl) (by kernel_rfl) (fun _ _ _ h => h) (Or.inl ⟨by rfl, ?_⟩) (by assumption) ?_
                  rotate_left
                  · intro Wq hSw
                    clear hSw
                    go_simp
                    all_goals (with_reducible rfl)
                  try simp only [Act.put, List.getElem_toArray, List.getElem_cons_succ, List.getElem_cons_zero, List.setIfInBounds_toArray, List.set_cons_zero, List.set_cons_succ]
                  refine wpAnyH_take (i := 5) (v := ?_) rfl (by kernel_rfl) (by kernel_rfl) (by kernel_rfl) (fun _ _ _ h => h) (Or.inl ⟨by rfl, ?_⟩) (by assumption) ?_
                  rotate_left
                  · intro Wq hSw
                    clear hSw
                    go_simp
                    all_goals (with_reducible rfl)
                  try simp only [Act.put, List.getElem_toArray, List.getElem_cons_succ, List.getElem_cons_zero, List.setIfInBounds_toArray, List.set_cons_zero, List.set_cons_succ]
                  refine wpAnyH_take (i := 6) (v := ?_) rfl (by kernel_rfl) (by kernel_rfl) (by kernel_rfl) (fun _ _ _ h => h) (Or.inl ⟨by rfl, ?_⟩) (by assumption) ?_
                  rotate_left
                  · intro Wq hSw
                    have b1 : ((i : Int) < (l.length : Int)) = True := eq_true (by omega)
                    have d1 : (i < l.length) = True := eq_true (by omega)
                    have c1 : ((0 : Int) ≤ (i : Int)) = True := eq_true (by omega)
                    clear hSw
                    go_simp
                    all_goals (with_reducible rfl)
                  try simp only [Act.put, List.getElem_toArray, List.getElem_cons_succ, List.getElem_cons_zero, List.setIfInBounds_toArray, List.set_cons_zero, List.set_cons_succ]
                  refine wpAnyH_take (i := 7) (v := ?_) rfl (by kernel_rfl) (by kernel_rfl) (by kernel_rfl) (fun _ _ _ h => h) (Or.inl ⟨by rfl, ?_⟩) (by assumption) ?_
                  rotate_left
                  · intro Wq hSw
                    obtain ⟨k0, k1⟩ := ptRow_at (HL.out.below (bl_trans HBi.out hSw)) hil HT.out
                    clear hSw
                    go_simp
                    all_goals (with_reducible rfl)
                  try simp only [Act.put, List.getElem_toArray, List.getElem_cons_succ, List.getElem_cons_zero, List.setIfInBounds_toArray, List.set_cons_zero, List.set_cons_succ]
                  refine wpAnyH_take (i := 8) (v := ?_) rfl (by kernel_rfl) (by kernel_rfl) (by kernel_rfl) (fun _ _ _ h => h) (Or.inl ⟨by rfl, ?_⟩) (by assumption) ?_
                  rotate_left
                  · intro Wq hSw
                    clear hSw
                    go_simp
                    all_goals (with_reducible rfl)
                  try simp only [Act.put, List.getElem_toArray, List.getElem_cons_succ, List.getElem_cons_zero, List.setIfInBounds_toArray, List.set_cons_zero, List.set_cons_succ]
                  refine wpAnyH_take (i := 9) (v := ?_) rfl (by kernel_rfl) (by kernel_rfl) (by kernel_rfl) (fun _ _ _ h => h) (Or.inl ⟨by rfl, ?_⟩) (by assumption) ?_
                  rotate_left
                  · intro Wq hSw
                    clear hSw
                    go_simp
                    all_goals (with_reducible rfl)
                  try simp only [Act.put, List.getElem_toArray, List.getElem_cons_succ, List.getElem_cons_zero, List.setIfInBounds_toArray, List.set_cons_zero, List.set_cons_succ]
                  refine wpAnyH_take (i := 10) (v := ?_) rfl (by kernel_rfl) (by kernel_rfl) (by kernel_rfl) (fun _ _ _ h => h) (Or.inl ⟨by rfl, ?_⟩) (by assumption) ?_
                  rotate_left
                  · intro Wq hSw
                    clear hSw
                    go_simp
                    all_goals (with_reducible rfl)
                  try simp only [Act.put, List.getElem_toArray, List.getElem_cons_succ, List.getElem_cons_zero, List.setIfInBounds_toArray, List.set_cons_zero, List.set_cons_succ]
                  refine wpAnyH_take (i := 11) (v := ?_) rfl (by kernel_rfl) (by kernel_rfl) (by kernel_rfl) (fun _ _ _ h => h) (Or.inl ⟨by rfl, ?_⟩) (by assumption) ?_
                  rotate_left
                  · intro Wq hSw
                    clear hSw
                    go_simp
                    all_goals (with_reducible rfl)
                  try simp only [Act.put, List.getElem_toArray, List.getElem_cons_succ, List.getElem_cons_zero, List.setIfInBounds_toArray, List.set_cons_zero, List.set_cons_succ]
                  refine wpAnyH_take (i := 12) (v := ?_) rfl (by kernel_rfl) (by kernel_rfl) (by kernel_rfl) (fun _ _ _ h => h) (Or.inl ⟨by rfl, ?_⟩) (by assumption) ?_
                  rotate_left
                  · intro Wq hSw
                    have b1 : ((j : Int) < (l.length : Int)) = True := eq_true (by omega)
                    have d1 : (j < l.length) = True := eq_true (by omega)
                    have c1 : ((0 : Int) ≤ (j : Int)) = True := eq_true (by omega)
                    clear hSw
                    go_simp
                    all_goals (with_reducible rfl)
                  try simp only [Act.put, List.getElem_toArray, List.getElem_cons_succ, List.getElem_cons_zero, List.setIfInBounds_toArray, List.set_cons_zero, List.set_cons_succ]
                  refine wpAnyH_take (i := 13) (v := ?_) rfl (by kernel_rfl) (by kernel_rfl) (by kernel_rfl) (fun _ _ _ h => h) (Or.inl ⟨by rfl, ?_⟩) (by assumption) ?_
                  rotate_left
                  · intro Wq hSw
                    obtain ⟨k0, k1⟩ := ptRow_at (HS8.out.below (bl_trans HBi.out hSw)) hjS HS.out
                    clear hSw
                    go_simp
                    all_goals (with_reducible rfl)
                  try simp only [Act.put, List.getElem_toArray, List.getElem_cons_succ, List.getElem_cons_zero, List.setIfInBounds_toArray, List.set_cons_zero, List.set_cons_succ]
                  refine wpAnyH_take (i := 14) (v := ?_) rfl (by kernel_rfl) (by kernel_rfl) (by kernel_rfl) (fun _ _ _ h => h) (Or.inl ⟨by rfl, ?_⟩) (by assumption) ?_
                  rotate_left
                  · intro Wq hSw
                    clear hSw
                    go_simp
                    all_goals (with_reducible rfl)
                  try simp only [Act.put, List.getElem_toArray, List.getElem_cons_succ, List.getElem_cons_zero, List.setIfInBounds_toArray, List.set_cons_zero, List.set_cons_succ]
                  refine wpAnyH_take (i := 15) (v := ?_) rfl (by kernel_rfl) (by kernel_rfl) (by kernel_rfl) (fun _ _ _ h => h) (Or.inl ⟨by rfl, ?_⟩) (by assumption) ?_
                  rotate_left
                  · intro Wq hSw
                    clear hSw
                    go_simp
                    all_goals (with_reducible rfl)
                  try simp only [Act.put, List.getElem_toArray, List.getElem_cons_succ, List.getElem_cons_zero, List.setIfInBounds_toArray, List.set_cons_zero, List.set_cons_succ]
                  refine wpAnyH_take (i := 16) (v := ?_) rfl (by kernel_rfl) (by kernel_rfl) (by kernel_rfl) (fun _ _ _ h => h) (Or.inl ⟨by rfl, ?_⟩) (by assumption) ?_
                  rotate_left
                  · intro Wq hSw
                    have b1 : ((i : Int) < (l.length : Int)) = True := eq_true (by omega)
                    have d1 : (i < l.length) = True := eq_true (by omega)
                    have c1 : ((0 : Int) ≤ (i : Int)) = True := eq_true (by omega)
                    clear hSw
                    go_simp
                    all_goals (with_reducible rfl)
                  try simp only [Act.put, List.getElem_toArray, List.getElem_cons_succ, List.getElem_cons_zero, List.setIfInBounds_toArray, List.set_cons_zero, List.set_cons_succ]
                  refine wpAnyH_take (i := 17) (v := ?_) rfl (by kernel_rfl) (by kernel_rfl) (by kernel_rfl) (fun _ _ _ h => h) (Or.inl ⟨by rfl, ?_⟩) (by assumption) ?_
                  rotate_left
                  · intro Wq hSw
                    clear hSw
                    go_simp
                    all_goals (with_reducible rfl)
                  try simp only [Act.put, List.getElem_toArray, List.getElem_cons_succ, List.getElem_cons_zero, List.setIfInBounds_toArray, List.set_cons_zero, List.set_cons_succ]
                  refine wpAnyH_take (i := 18) (v := ?_) rfl (by kernel_rfl) (by kernel_rfl) (by kernel_rfl) (fun _ _ _ h => h) (Or.inl ⟨by rfl, ?_⟩) (by assumption) ?_
                  rotate_left
                  · intro Wq hSw
                    obtain ⟨k0, k1⟩ := ptRow_at (HL.out.below (bl_trans HBi.out hSw)) hil HT.out
                    clear hSw
                    go_simp
                    all_goals (with_reducible rfl)
                  try simp only [Act.put, List.getElem_toArray, List.getElem_cons_succ, List.getElem_cons_zero, List.setIfInBounds_toArray, List.set_cons_zero, List.set_cons_succ]
                  refine wpAnyH_take (i := 19) (v := ?_) rfl (by kernel_rfl) (by kernel_rfl) (by kernel_rfl) (fun _ _ _ h => h) (Or.inl ⟨by rfl, ?_⟩) (by assumption) ?_
                  rotate_left
                  · intro Wq hSw
                    clear hSw
                    go_simp
                    all_goals (with_reducible rfl)
                  try simp only [Act.put, List.getElem_toArray, List.getElem_cons_succ, List.getElem_cons_zero, List.setIfInBounds_toArray, List.set_cons_zero, List.set_cons_succ]
                  refine wpAnyH_take (i := 20) (v := ?_) rfl (by kernel_rfl) (by kernel_rfl) (by kernel_rfl) (fun _ _ _ h => h) (Or.inl ⟨by rfl, ?_⟩) (by assumption) ?_
                  rotate_left
                  · intro Wq hSw
                    clear hSw
                    go_simp
                    all_goals (with_reducible rfl)
                  try simp only [Act.put, List.getElem_toArray, List.getElem_cons_succ, List.getElem_cons_zero, List.setIfInBounds_toArray, List.set_cons_zero, List.set_cons_succ]
                  refine wpAnyH_take (i := 21) (v := ?_) rfl (by kernel_rfl) (by kernel_rfl) (by kernel_rfl) (fun _ _ _ h => h) (Or.inl ⟨by rfl, ?_⟩) (by assumption) ?_
                  rotate_left
                  · intro Wq hSw
                    have b1 : ((i : Int) < (l.length : Int)) = True := eq_true (by omega)
                    have d1 : (i < l.length) = True := eq_true (by omega)
                    have c1 : ((0 : Int) ≤ (i : Int)) = True := eq_true (by omega)
                    clear hSw
                    go_simp
                    all_goals (with_reducible rfl)
                  try simp only [Act.put, List.getElem_toArray, List.getElem_cons_succ, List.getElem_cons_zero, List.setIfInBounds_toArray, List.set_cons_zero, List.set_cons_succ]
                  refine wpAnyH_take (i := 22) (v := ?_) rfl (by kernel_rfl) (by kernel_rfl) (by kernel_rfl) (fun _ _ _ h => h) (Or.inl ⟨by rfl, ?_⟩) (by assumption) ?_
                  rotate_left
                  · intro Wq hSw
                    clear hSw
                    go_simp
                    all_goals (with_reducible rfl)
                  try simp only [Act.put, List.getElem_toArray, List.getElem_cons_succ, List.getElem_cons_zero, List.setIfInBounds_toArray, List.set_cons_zero, List.set_cons_succ]
                  refine wpAnyH_take (i := 23) (v := ?_) rfl (by kernel_rfl) (by kernel_rfl) (by kernel_rfl) (fun _ _ _ h => h) (Or.inl ⟨by rfl, ?_⟩) (by assumption) ?_
                  rotate_left
                  · intro Wq hSw
                    obtain ⟨k0, k1⟩ := ptRow_at (HL.out.below (bl_trans HBi.out hSw)) hil HT.out
                    clear hSw
                    go_simp
                    all_goals (with_reducible rfl)
                  try simp only [Act.put, List.getElem_toArray, List.getElem_cons_succ, List.getElem_cons_zero, List.setIfInBounds_toArray, List.set_cons_zero, List.set_cons_succ]
                  refine wpAnyH_take (i := 24) (v := ?_) rfl (by kernel_rfl) (by kernel_rfl) (by kernel_rfl) (fun _ _ _ h => h) (Or.inl ⟨by rfl, ?_⟩) (by assumption) ?_
                  rotate_left
                  · intro Wq hSw
                    clear hSw
                    go_simp
                    all_goals (with_reducible rfl)
                  try simp only [Act.put, List.getElem_toArray, List.getElem_cons_succ, List.getElem_cons_zero, List.setIfInBounds_toArray, List.set_cons_zero, List.set_cons_succ]
                  refine wpAnyH_take (i := 25) (v := ?_) rfl (by kernel_rfl) (by kernel_rfl) (by kernel_rfl) (fun _ _ _ h => h) (Or.inl ⟨by rfl, ?_⟩) (by assumption) ?_
                  rotate_left
                  · intro Wq hSw
                    clear hSw
                    go_simp
                    all_goals (with_reducible rfl)
                  try simp only [Act.put, List.getElem_toArray, List.getElem_cons_succ, List.getElem_cons_zero, List.setIfInBounds_toArray, List.set_cons_zero, List.set_cons_succ]
                  refine wpAnyH_take (i := 26) (v := ?_) rfl (by kernel_rfl) (by kernel_rfl) (by kernel_rfl) (fun _ _ _ h => h) (Or.inl ⟨by rfl, ?_⟩) (by assumption) ?_
                  rotate_left
                  · intro Wq hSw
                    clear hSw
                    go_simp
                    all_goals (with_reducible rfl)
                  try simp only [Act.put, List.getElem_toArray, List.getElem_cons_succ, List.getElem_cons_zero, List.setIfInBounds_toArray, List.set_cons_zero, List.set_cons_succ]
                  refine wpAnyH_done (by kernel_rfl) ?_ _
                  go_wp2_with fail
                  go_meet
                  case rel => exact ⟨by rw [HV.out], hHeld⟩
            case neg =>
              by_cases e3 : sx = ty
              case pos =>
                by_cases e4 : sy = tx
                case pos =>
                  have HV : Hid (sm = true) := by have := HSM.out; unfold Hid; cases sm <;> simp_all
                  have b6 : (sx = tx) = False := eq_false e1
                  have b8 : (sx = ty) = True := eq_true e3
                  have b9 : (sy = tx) = True := eq_true e4
                  clear e1 e3 e4
                  refine wp_region_held_drew (S := fun V => Below WC.heap.size WC V) (by kernel_rfl) ?_ (fun hHeld => ?_)
                  · exact bel_drew WC
                  revert hHeld
                  generalize World.drew _ = W1
                  intro hHeld 
                  refine wpAnyH_take (i := 0) (v := ?_) rfl (by kernel_rfl) (by kernel_rfl) (by kernel_rfl) (fun _ _ _ h => h) (Or.inl ⟨by rfl, ?_⟩) (by assumption) ?_
                  rotate_left
                  · intro Wq hSw
                    clear hSw
                    go_simp
                    all_goals (with_reducible rfl)
                  try simp only [Act.put, List.getElem_toArray, List.getElem_cons_zero, List.setIfInBounds_toArray, List.set_cons_zero, List.set_cons_succ]
                  refine wpAnyH_take (i := 1) (v := ?_) rfl (by kernel_rfl) (by kernel_rfl) (by kernel_rfl) (fun _ _ _ h => h) (Or.inl ⟨by rfl, ?_⟩) (by assumption) ?_
                  rotate_left
                  · intro Wq hSw
                    clear hSw
                    go_simp
                    all_goals (with_reducible rfl)
                  try simp only [Act.put, List.getElem_toArray, List.getElem_cons_succ, List.getElem_cons_zero, List.setIfInBounds_toArray, List.set_cons_zero, List.set_cons_succ]
                  refine wpAnyH_take (i := 2) (v := ?_) rfl (by kernel_rfl) (by kernel_rfl) (by kernel_rfl) (fun _ _ _ h => h) (Or.inl ⟨by rfl, ?_⟩) (by assumption) ?_
                  rotate_left
                  · intro Wq hSw
                    have b1 : ((j : Int) < (l.length : Int)) = True := eq_true (by omega)
                    have d1 : (j < l.length) = True := eq_true (by omega)
                    have c1 : ((0 : Int) ≤ (j : Int)) = True := eq_true (by omega)
                    clear hSw
                    go_simp
                    all_goals (with_reducible rfl)
                  try simp only [Act.put, List.getElem_toArray, List.getElem_cons_succ, List.getElem_cons_zero, List.setIfInBounds_toArray, List.set_cons_zero, List.set_cons_succ]
                  refine wpAnyH_take (i := 3) (v := ?_) rfl (by kernel_rfl) (by kernel_rfl) (by kernel_rfl) (fun _ _ _ h => h) (Or.inl ⟨by rfl, ?_⟩) (by assumption) ?_
                  rotate_left
                  · intro Wq hSw
                    obtain ⟨k0, k1⟩ := ptRow_at (HS8.out.below (bl_trans HBi.out hSw)) hjS HS.out
                    clear hSw
                    go_simp
                    all_goals (with_reducible rfl)
                  try simp only [Act.put, List.getElem_toArray, List.getElem_cons_succ, List.getElem_cons_zero, List.setIfInBounds_toArray, List.set_cons_zero, List.set_cons_succ]
                  refine wpAnyH_take (i := 4) (v := ?_) rfl (by kernel_rfl) (by kernel_rfl) (by kernel_rfl) (fun _ _ _ h => h) (Or.inl ⟨by rfl, ?_⟩) (by assumption) ?_
                  rotate_left
                  · intro Wq hSw
                    clear hSw
                    go_simp
                    all_goals (with_reducible rfl)
                  try simp only [Act.put, List.getElem_toArray, List.getElem_cons_succ, List.getElem_cons_zero, List.setIfInBounds_toArray, List.set_cons_zero, List.set_cons_succ]
                  refine wpAnyH_take (i := 5) (v := ?_) rfl (by kernel_rfl) (by kernel_rfl) (by kernel_rfl) (fun _ _ _ h => h) (Or.inl ⟨by rfl, ?_⟩) (by assumption) ?_
                  rotate_left
                  · intro Wq hSw
                    clear hSw
                    go_simp
                    all_goals (with_reducible rfl)
                  try simp only [Act.put, List.getElem_toArray, List.getElem_cons_succ, List.getElem_cons_zero, List.setIfInBounds_toArray, List.set_cons_zero, List.set_cons_succ]
                  refine wpAnyH_take (i := 6) (v := ?_) rfl (by kernel_rfl) (by kernel_rfl) (by kernel_rfl) (fun _ _ _ h => h) (Or.inl ⟨by rfl, ?_⟩) (by assumption) ?_
                  rotate_left
                  · intro Wq hSw
                    have b1 : ((i : Int) < (l.length : Int)) = True := eq_true (by omega)
                    have d1 : (i < l.length) = True := eq_true (by omega)
                    have c1 : ((0 : Int) ≤ (i : Int)) = True := eq_true (by omega)
                    clear hSw
                    go_simp
                    all_goals (with_reducible rfl)
                  try simp only [Act.put, List.getElem_toArray, List.getElem_cons_succ, List.getElem_cons_zero, List.setIfInBounds_toArray, List.set_cons_zero, List.set_cons_succ]
                  refine wpAnyH_take (i := 7) (v := ?_) rfl (by kernel_rfl) (by kernel_rfl) (by kernel_rfl) (fun _ _ _ h => h) (Or.inl ⟨by rfl, ?_⟩) (by assumption) ?_
                  rotate_left
                  · intro Wq hSw
                    obtain ⟨k0, k1⟩ := ptRow_at (HL.out.below (bl_trans HBi.out hSw)) hil HT.out
                    clear hSw
                    go_simp
                    all_goals (with_reducible rfl)
                  try simp only [Act.put, List.getElem_toArray, List.getElem_cons_succ, List.getElem_cons_zero, List.setIfInBounds_toArray, List.set_cons_zero, List.set_cons_succ]
                  refine wpAnyH_take (i := 8) (v := ?_) rfl (by kernel_rfl) (by kernel_rfl) (by kernel_rfl) (fun _ _ _ h => h) (Or.inl ⟨by rfl, ?_⟩) (by assumption) ?_
                  rotate_left
                  · intro Wq hSw
                    clear hSw
                    go_simp
                    all_goals (with_reducible rfl)
                  try simp only [Act.put, List.getElem_toArray, List.getElem_cons_succ, List.getElem_cons_zero, List.setIfInBounds_toArray, List.set_cons_zero, List.set_cons_succ]
                  refine wpAnyH_take (i := 9) (v := ?_) rfl (by kernel_rfl) (by kernel_rfl) (by kernel_rfl) (fun _ _ _ h => h) (Or.inl ⟨by rfl, ?_⟩) (by assumption) ?_
                  rotate_left
                  · intro Wq hSw
                    clear hSw
                    go_simp
                    all_goals (with_reducible rfl)
                  try simp only [Act.put, List.getElem_toArray, List.getElem_cons_succ, List.getElem_cons_zero, List.setIfInBounds_toArray, List.set_cons_zero, List.set_cons_succ]
                  refine wpAnyH_take (i := 10) (v := ?_) rfl (by kernel_rfl) (by kernel_rfl) (by kernel_rfl) (fun _ _ _ h => h) (Or.inl ⟨by rfl, ?_⟩) (by assumption) ?_
                  rotate_left
                  · intro Wq hSw
                    clear hSw
                    go_simp
                    all_goals (with_reducible rfl)
                  try simp only [Act.put, List.getElem_toArray, List.getElem_cons_succ, List.getElem_cons_zero, List.setIfInBounds_toArray, List.set_cons_zero, List.set_cons_succ]
                  refine wpAnyH_take (i := 11) (v := ?_) rfl (by kernel_rfl) (by kernel_rfl) (by kernel_rfl) (fun _ _ _ h => h) (Or.inl ⟨by rfl, ?_⟩) (by assumption) ?_
                  rotate_left
                  · intro Wq hSw
                    clear hSw
                    go_simp
                    all_goals (with_reducible rfl)
                  try simp only [Act.put, List.getElem_toArray, List.getElem_cons_succ, List.getElem_cons_zero, List.setIfInBounds_toArray, List.set_cons_zero, List.set_cons_succ]
                  refine wpAnyH_take (i := 12) (v := ?_) rfl (by kernel_rfl) (by kernel_rfl) (by kernel_rfl) (fun _ _ _ h => h) (Or.inl ⟨by rfl, ?_⟩) (by assumption) ?_
                  rotate_left
                  · intro Wq hSw
                    have b1 : ((j : Int) < (l.length : Int)) = True := eq_true (by omega)
                    have d1 : (j < l.length) = True := eq_true (by omega)
                    have c1 : ((0 : Int) ≤ (j : Int)) = True := eq_true (by omega)
                    clear hSw
                    go_simp
                    all_goals (with_reducible rfl)
                  try simp only [Act.put, List.getElem_toArray, List.getElem_cons_succ, List.getElem_cons_zero, List.setIfInBounds_toArray, List.set_cons_zero, List.set_cons_succ]
                  refine wpAnyH_take (i := 13) (v := ?_) rfl (by kernel_rfl) (by kernel_rfl) (by kernel_rfl) (fun _ _ _ h => h) (Or.inl ⟨by rfl, ?_⟩) (by assumption) ?_
                  rotate_left
                  · intro Wq hSw
                    obtain ⟨k0, k1⟩ := ptRow_at (HS8.out.below (bl_trans HBi.out hSw)) hjS HS.out
                    clear hSw
                    go_simp
                    all_goals (with_reducible rfl)
                  try simp only [Act.put, List.getElem_toArray, List.getElem_cons_succ, List.getElem_cons_zero, List.setIfInBounds_toArray, List.set_cons_zero, List.set_cons_succ]
                  refine wpAnyH_take (i := 14) (v := ?_) rfl (by kernel_rfl) (by kernel_rfl) (by kernel_rfl) (fun _ _ _ h => h) (Or.inl ⟨by rfl, ?_⟩) (by assumption) ?_
                  rotate_left
                  · intro Wq hSw
                    clear hSw
                    go_simp
                    all_goals (with_reducible rfl)
                  try simp only [Act.put, List.getElem_toArray, List.getElem_cons_succ, List.getElem_cons_zero, List.setIfInBounds_toArray, List.set_cons_zero, List.set_cons_succ]
                  refine wpAnyH_take (i := 15) (v := ?_) rfl (by kernel_rfl) (by kernel_rfl) (by kernel_rfl) (fun _ _ _ h => h) (Or.inl ⟨by rfl, ?_⟩) (by assumption) ?_
                  rotate_left
                  · intro Wq hSw
                    clear hSw
                    go_simp
                    all_goals (with_reducible rfl)
                  try simp only [Act.put, List.getElem_toArray, List.getElem_cons_succ, List.getElem_cons_zero, List.setIfInBounds_toArray, List.set_cons_zero, List.set_cons_succ]
                  refine wpAnyH_take (i := 16) (v := ?_) rfl (by kernel_rfl) (by kernel_rfl) (by kernel_rfl) (fun _ _ _ h => h) (Or.inl ⟨by rfl, ?_⟩) (by assumption) ?_
                  rotate_left
                  · intro Wq hSw
                    have b1 : ((i : Int) < (l.length : Int)) = True := eq_true (by omega)
                    have d1 : (i < l.length) = True := eq_true (by omega)
                    have c1 : ((0 : Int) ≤ (i : Int)) = True := eq_true (by omega)
                    clear hSw
                    go_simp
                    all_goals (with_reducible rfl)
                  try simp only [Act.put, List.getElem_toArray, List.getElem_cons_succ, List.getElem_cons_zero, List.setIfInBounds_toArray, List.set_cons_zero, List.set_cons_succ]
                  refine wpAnyH_take (i := 17) (v := ?_) rfl (by kernel_rfl) (by kernel_rfl) (by kernel_rfl) (fun _ _ _ h => h) (Or.inl ⟨by rfl, ?_⟩) (by assumption) ?_
                  rotate_left
                  · intro Wq hSw
                    clear hSw
                    go_simp
                    all_goals (with_reducible rfl)
                  try simp only [Act.put, List.getElem_toArray, List.getElem_cons_succ, List.getElem_cons_zero, List.setIfInBounds_toArray, List.set_cons_zero, List.set_cons_succ]
                  refine wpAnyH_take (i := 18) (v := ?_) rfl (by kernel_rfl) (by kernel_rfl) (by kernel_rfl) (fun _ _ _ h => h) (Or.inl ⟨by rfl, ?_⟩) (by assumption) ?_
                  rotate_left
                  · intro Wq hSw
                    obtain ⟨k0, k1⟩ := ptRow_at (HL.out.below (bl_trans HBi.out hSw)) hil HT.out
                    clear hSw
                    go_simp
                    all_goals (with_reducible rfl)
                  try simp only [Act.put, List.getElem_toArray, List.getElem_cons_succ, List.getElem_cons_zero, List.setIfInBounds_toArray, List.set_cons_zero, List.set_cons_succ]
                  refine wpAnyH_take (i := 19) (v := ?_) rfl (by kernel_rfl) (by kernel_rfl) (by kernel_rfl) (fun _ _ _ h => h) (Or.inl ⟨by rfl, ?_⟩) (by assumption) ?_
                  rotate_left
                  · intro Wq hSw
                    clear hSw
                    go_simp
                    all_goals (with_reducible rfl)
                  try simp only [Act.put, List.getElem_toArray, List.getElem_cons_succ, List.getElem_cons_zero, List.setIfInBounds_toArray, List.set_cons_zero, List.set_cons_succ]
                  refine wpAnyH_take (i := 20) (v := ?_) rfl (by kernel_rfl) (by kernel_rfl) (by kernel_rfl) (fun _ _ _ h => h) (Or.inl ⟨by rfl, ?_⟩) (by assumption) ?_
                  rotate_left
                  · intro Wq hSw
                    clear hSw
                    go_simp
                    all_goals (with_reducible rfl)
                  try simp only [Act.put, List.getElem_toArray, List.getElem_cons_succ, List.getElem_cons_zero, List.setIfInBounds_toArray, List.set_cons_zero, List.set_cons_succ]
                  refine wpAnyH_take (i := 21) (v := ?_) rfl (by kernel_rfl) (by kernel_rfl) (by kernel_rfl) (fun _ _ _ h => h) (Or.inl ⟨by rfl, ?_⟩) (by assumption) ?_
                  rotate_left
                  · intro Wq hSw
                    have b1 : ((i : Int) < (l.length : Int)) = True := eq_true (by omega)
                    have d1 : (i < l.length) = True := eq_true (by omega)
                    have c1 : ((0 : Int) ≤ (i : Int)) = True := eq_true (by omega)
                    clear hSw
                    go_simp
                    all_goals (with_reducible rfl)
                  try simp only [Act.put, List.getElem_toArray, List.getElem_cons_succ, List.getElem_cons_zero, List.setIfInBounds_toArray, List.set_cons_zero, List.set_cons_succ]
                  refine wpAnyH_take (i := 22) (v := ?_) rfl (by kernel_rfl) (by kernel_rfl) (by kernel_rfl) (fun _ _ _ h => h) (Or.inl ⟨by rfl, ?_⟩) (by assumption) ?_
                  rotate_left
                  · intro Wq hSw
                    clear hSw
                    go_simp
                    all_goals (with_reducible rfl)
                  try simp only [Act.put, List.getElem_toArray, List.getElem_cons_succ, List.getElem_cons_zero, List.setIfInBounds_toArray, List.set_cons_zero, List.set_cons_succ]
                  refine wpAnyH_take (i := 23) (v := ?_) rfl (by kernel_rfl) (by kernel_rfl) (by kernel_rfl) (fun _ _ _ h => h) (Or.inl ⟨by rfl, ?_⟩) (by assumption) ?_
                  rotate_left
                  · intro Wq hSw
                    obtain ⟨k0, k1⟩ := ptRow_at (HL.out.below (bl_trans HBi.out hSw)) hil HT.out
                    clear hSw
                    go_simp
                    all_goals (with_reducible rfl)
                  try simp only [Act.put, List.getElem_toArray, List.getElem_cons_succ, List.getElem_cons_zero, List.setIfInBounds_toArray, List.set_cons_zero, List.set_cons_succ]
                  refine wpAnyH_take (i := 24) (v := ?_) rfl (by kernel_rfl) (by kernel_rfl) (by kernel_rfl) (fun _ _ _ h => h) (Or.inl ⟨by rfl, ?_⟩) (by assumption) ?_
                  rotate_left
                  · intro Wq hSw
                    clear hSw
                    go_simp
                    all_goals (with_reducible rfl)
                  try simp only [Act.put, List.getElem_toArray, List.getElem_cons_succ, List.getElem_cons_zero, List.setIfInBounds_toArray, List.set_cons_zero, List.set_cons_succ]
                  refine wpAnyH_take (i := 25) (v := ?_) rfl (by kernel_rfl) (by kernel_rfl) (by kernel_rfl) (fun _ _ _ h => h) (Or.inl ⟨by rfl, ?_⟩) (by assumption) ?_
                  rotate_left
                  · intro Wq hSw
                    clear hSw
                    go_simp
                    all_goals (with_reducible rfl)
                  try simp only [Act.put, List.getElem_toArray, List.getElem_cons_succ, List.getElem_cons_zero, List.setIfInBounds_toArray, List.set_cons_zero, List.set_cons_succ]
                  refine wpAnyH_take (i := 26) (v := ?_) rfl (by kernel_rfl) (by kernel_rfl) (by kernel_rfl) (fun _ _ _ h => h) (Or.inl ⟨by rfl, ?_⟩) (by assumption) ?_
                  rotate_left
                  · intro Wq hSw
                    clear hSw
                    go_simp
                    all_goals (with_reducible rfl)
                  try simp only [Act.put, List.getElem_toArray, List.getElem_cons_succ, List.getElem_cons_zero, List.setIfInBounds_toArray, List.set_cons_zero, List.set_cons_succ]
                  refine wpAnyH_done (by kernel_rfl) ?_ _
                  go_wp2_with fail
                  go_meet
                  case rel => exact ⟨by rw [HV.out], hHeld⟩
                case neg =>
                  have HV : Hid (sm = false) := by have := HSM.out; unfold Hid; cases sm <;> simp_all
                  have b6 : (sx = tx) = False := eq_false e1
                  have b8 : (sx = ty) = True := eq_true e3
                  have b9 : (sy = tx) = False := eq_false e4
                  clear e1 e3 e4
                  refine wp_region_held_drew (S := fun V => Below WC.heap.size WC V) (by kernel_rfl) ?_ (fun hHeld => ?_)
                  · exact bel_drew WC
                  revert hHeld
                  generalize World.drew _ = W1
                  intro hHeld 
                  refine wpAnyH_take (i := 0) (v := ?_) rfl (by kernel_rfl) (by kernel_rfl) (by kernel_rfl) (fun _ _ _ h => h) (Or.inl ⟨by rfl, ?_⟩) (by assumption) ?_
                  rotate_left
                  · intro Wq hSw
                    clear hSw
                    go_simp
                    all_goals (with_reducible rfl)
                  try simp only [Act.put, List.getElem_toArray, List.getElem_cons_zero, List.setIfInBounds_toArray, List.set_cons_zero, List.set_cons_succ]
                  refine wpAnyH_take (i := 1) (v := ?_) rfl (by kernel_rfl) (by kernel_rfl) (by kernel_rfl) (fun _ _ _ h => h) (Or.inl ⟨by rfl, ?_⟩) (by assumption) ?_
                  rotate_left
                  · intro Wq hSw
                    clear hSw
                    go_simp
                    all_goals (with_reducible rfl)
                  try simp only [Act.put, List.getElem_toArray, List.getElem_cons_succ, List.getElem_cons_zero, List.setIfInBounds_toArray, List.set_cons_zero, List.set_cons_succ]
                  refine wpAnyH_take (i := 2) (v := ?_) rfl (by kernel_rfl) (by kernel_rfl) (by kernel_rfl) (fun _ _ _ h => h) (Or.inl ⟨by rfl, ?_⟩) (by assumption) ?_
                  rotate_left
                  · intro Wq hSw
                    have b1 : ((j : Int) < (l.length : Int)) = True := eq_true (by omega)
                    have d1 : (j < l.length) = True := eq_true (by omega)
                    have c1 : ((0 : Int) ≤ (j : Int)) = True := eq_true (by omega)
                    clear hSw
                    go_simp
                    all_goals (with_reducible rfl)
                  try simp only [Act.put, List.getElem_toArray, List.getElem_cons_succ, List.getElem_cons_zero, List.setIfInBounds_toArray, List.set_cons_zero, List.set_cons_succ]
                  refine wpAnyH_take (i := 3) (v := ?_) rfl (by kernel_rfl) (by kernel_rfl) (by kernel_rfl) (fun _ _ _ h => h) (Or.inl ⟨by rfl, ?_⟩) (by assumption) ?_
                  rotate_left
                  · intro Wq hSw
                    obtain ⟨k0, k1⟩ := ptRow_at (HS8.out.below (bl_trans HBi.out hSw)) hjS HS.out
                    clear hSw
                    go_simp
                    all_goals (with_reducible rfl)
                  try simp only [Act.put, List.getElem_toArray, List.getElem_cons_succ, List.getElem_cons_zero, List.setIfInBounds_toArray, List.set_cons_zero, List.set_cons_succ]
                  refine wpAnyH_take (i := 4) (v := ?_) rfl (by kernel_rfl) (by kernel_rfl) (by kernel_rfl) (fun _ _ _ h => h) (Or.inl ⟨by rfl, ?_⟩) (by assumption) ?_
                  rotate_left
                  · intro Wq hSw
                    clear hSw
                    go_simp
                    all_goals (with_reducible rfl)
                  try simp only [Act.put, List.getElem_toArray, List.getElem_cons_succ, List.getElem_cons_zero, List.setIfInBounds_toArray, List.set_cons_zero, List.set_cons_succ]
                  refine wpAnyH_take (i := 5) (v := ?_) rfl (by kernel_rfl) (by kernel_rfl) (by kernel_rfl) (fun _ _ _ h => h) (Or.inl ⟨by rfl, ?_⟩) (by assumption) ?_
                  rotate_left
                  · intro Wq hSw
                    clear hSw
                    go_simp
                    all_goals (with_reducible rfl)
                  try simp only [Act.put, List.getElem_toArray, List.getElem_cons_succ, List.getElem_cons_zero, List.setIfInBounds_toArray, List.set_cons_zero, List.set_cons_succ]
                  refine wpAnyH_take (i := 6) (v := ?_) rfl (by kernel_rfl) (by kernel_rfl) (by kernel_rfl) (fun _ _ _ h => h) (Or.inl ⟨by rfl, ?_⟩) (by assumption) ?_
                  rotate_left
                  · intro Wq hSw
                    have b1 : ((i : Int) < (l.length : Int)) = True := eq_true (by omega)
                    have d1 : (i < l.length) = True := eq_true (by omega)
                    have c1 : ((0 : Int) ≤ (i : Int)) = True := eq_true (by omega)
                    clear hSw
                    go_simp
                    all_goals (with_reducible rfl)
                  try simp only [Act.put, List.getElem_toArray, List.getElem_cons_succ, List.getElem_cons_zero, List.setIfInBounds_toArray, List.set_cons_zero, List.set_cons_succ]
                  refine wpAnyH_take (i := 7) (v := ?_) rfl (by kernel_rfl) (by kernel_rfl) (by kernel_rfl) (fun _ _ _ h => h) (Or.inl ⟨by rfl, ?_⟩) (by assumption) ?_
                  rotate_left
                  · intro Wq hSw
                    obtain ⟨k0, k1⟩ := ptRow_at (HL.out.below (bl_trans HBi.out hSw)) hil HT.out
                    clear hSw
                    go_simp
                    all_goals (with_reducible rfl)
                  try simp only [Act.put, List.getElem_toArray, List.getElem_cons_succ, List.getElem_cons_zero, List.setIfInBounds_toArray, List.set_cons_zero, List.set_cons_succ]
                  refine wpAnyH_take (i := 8) (v := ?_) rfl (by kernel_rfl) (by kernel_rfl) (by kernel_rfl) (fun _ _ _ h => h) (Or.inl ⟨by rfl, ?_⟩) (by assumption) ?_
                  rotate_left
                  · intro Wq hSw
                    clear hSw
                    go_simp
                    all_goals (with_reducible rfl)
                  try simp only [Act.put, List.getElem_toArray, List.getElem_cons_succ, List.getElem_cons_zero, List.setIfInBounds_toArray, List.set_cons_zero, List.set_cons_succ]
                  refine wpAnyH_take (i := 9) (v := ?_) rfl (by kernel_rfl) (by kernel_rfl) (by kernel_rfl) (fun _ _ _ h => h) (Or.inl ⟨by rfl, ?_⟩) (by assumption) ?_
                  rotate_left
                  · intro Wq hSw
                    clear hSw
                    go_simp
                    all_goals (with_reducible rfl)
                  try simp only [Act.put, List.getElem_toArray, List.getElem_cons_succ, List.getElem_cons_zero, List.setIfInBounds_toArray, List.set_cons_zero, List.set_cons_succ]
                  refine wpAnyH_take (i := 10) (v := ?_) rfl (by kernel_rfl) (by kernel_rfl) (by kernel_rfl) (fun _ _ _ h => h) (Or.inl ⟨by rfl, ?_⟩) (by assumption) ?_
                  rotate_left
                  · intro Wq hSw
                    clear hSw
                    go_simp
                    all_goals (with_reducible rfl)
                  try simp only [Act.put, List.getElem_toArray, List.getElem_cons_succ, List.getElem_cons_zero, List.setIfInBounds_toArray, List.set_cons_zero, List.set_cons_succ]
                  refine wpAnyH_take (i := 11) (v := ?_) rfl (by kernel_rfl) (by kernel_rfl) (by kernel_rfl) (fun _ _ _ h => h) (Or.inl ⟨by rfl, ?_⟩) (by assumption) ?_
                  rotate_left
                  · intro Wq hSw
                    clear hSw
                    go_simp
                    all_goals (with_reducible rfl)
                  try simp only [Act.put, List.getElem_toArray, List.getElem_cons_succ, List.getElem_cons_zero, List.setIfInBounds_toArray, List.set_cons_zero, List.set_cons_succ]
                  refine wpAnyH_take (i := 12) (v := ?_) rfl (by kernel_rfl) (by kernel_rfl) (by kernel_rfl) (fun _ _ _ h => h) (Or.inl ⟨by rfl, ?_⟩) (by assumption) ?_
                  rotate_left
                  · intro Wq hSw
                    have b1 : ((j : Int) < (l.length : Int)) = True := eq_true (by omega)
                    have d1 : (j < l.length) = True := eq_true (by omega)
                    have c1 : ((0 : Int) ≤ (j : Int)) = True := eq_true (by omega)
                    clear hSw
                    go_simp
                    all_goals (with_reducible rfl)
                  try simp only [Act.put, List.getElem_toArray, List.getElem_cons_succ, List.getElem_cons_zero, List.setIfInBounds_toArray, List.set_cons_zero, List.set_cons_succ]
                  refine wpAnyH_take (i := 13) (v := ?_) rfl (by kernel_rfl) (by kernel_rfl) (by kernel_rfl) (fun _ _ _ h => h) (Or.inl ⟨by rfl, ?_⟩) (by assumption) ?_
                  rotate_left
                  · intro Wq hSw
                    obtain ⟨k0, k1⟩ := ptRow_at (HS8.out.below (bl_trans HBi.out hSw)) hjS HS.out
                    clear hSw
                    go_simp
                    all_goals (with_reducible rfl)
                  try simp only [Act.put, List.getElem_toArray, List.getElem_cons_succ, List.getElem_cons_zero, List.setIfInBounds_toArray, List.set_cons_zero, List.set_cons_succ]
                  refine wpAnyH_take (i := 14) (v := ?_) rfl (by kernel_rfl) (by kernel_rfl) (by kernel_rfl) (fun _ _ _ h => h) (Or.inl ⟨by rfl, ?_⟩) (by assumption) ?_
                  rotate_left
                  · intro Wq hSw
                    clear hSw
                    go_simp
                    all_goals (with_reducible rfl)
                  try simp only [Act.put, List.getElem_toArray, List.getElem_cons_succ, List.getElem_cons_zero, List.setIfInBounds_toArray, List.set_cons_zero, List.set_cons_succ]
                  refine wpAnyH_take (i := 15) (v := ?_) rfl (by kernel_rfl) (by kernel_rfl) (by kernel_rfl) (fun _ _ _ h => h) (Or.inl ⟨by rfl, ?_⟩) (by assumption) ?_
                  rotate_left
                  · intro Wq hSw
                    clear hSw
                    go_simp
                    all_goals (with_reducible rfl)
                  try simp only [Act.put, List.getElem_toArray, List.getElem_cons_succ, List.getElem_cons_zero, List.setIfInBounds_toArray, List.set_cons_zero, List.set_cons_succ]
                  refine wpAnyH_take (i := 16) (v := ?_) rfl (by kernel_rfl) (by kernel_rfl) (by kernel_rfl) (fun _ _ _ h => h) (Or.inl ⟨by rfl, ?_⟩) (by assumption) ?_
                  rotate_left
                  · intro Wq hSw
                    have b1 : ((i : Int) < (l.length : Int)) = True := eq_true (by omega)
                    have d1 : (i < l.length) = True := eq_true (by omega)
                    have c1 : ((0 : Int) ≤ (i : Int)) = True := eq_true (by omega)
                    clear hSw
                    go_simp
                    all_goals (with_reducible rfl)
                  try simp only [Act.put, List.getElem_toArray, List.getElem_cons_succ, List.getElem_cons_zero, List.setIfInBounds_toArray, List.set_cons_zero, List.set_cons_succ]
                  refine wpAnyH_take (i := 17) (v := ?_) rfl (by kernel_rfl) (by kernel_rfl) (by kernel_rfl) (fun _ _ _ h => h) (Or.inl ⟨by rfl, ?_⟩) (by assumption) ?_
                  rotate_left
                  · intro Wq hSw
                    clear hSw
                    go_simp
                    all_goals (with_reducible rfl)
                  try simp only [Act.put, List.getElem_toArray, List.getElem_cons_succ, List.getElem_cons_zero, List.setIfInBounds_toArray, List.set_cons_zero, List.set_cons_succ]
                  refine wpAnyH_take (i := 18) (v := ?_) rfl (by kernel_rfl) (by kernel_rfl) (by kernel_rfl) (fun _ _ _ h => h) (Or.inl ⟨by rfl, ?_⟩) (by assumption) ?_
                  rotate_left
                  · intro Wq hSw
                    obtain ⟨k0, k1⟩ := ptRow_at (HL.out.below (bl_trans HBi.out hSw)) hil HT.out
                    clear hSw
                    go_simp
                    all_goals (with_reducible rfl)
                  try simp only [Act.put, List.getElem_toArray, List.getElem_cons_succ, List.getElem_cons_zero, List.setIfInBounds_toArray, List.set_cons_zero, List.set_cons_succ]
                  refine wpAnyH_take (i := 19) (v := ?_) rfl (by kernel_rfl) (by kernel_rfl) (by kernel_rfl) (fun _ _ _ h => h) (Or.inl ⟨by rfl, ?_⟩) (by assumption) ?_
                  rotate_left
                  · intro Wq hSw
                    clear hSw
                    go_simp
                    all_goals (with_reducible rfl)
                  try simp only [Act.put, List.getElem_toArray, List.getElem_cons_succ, List.getElem_cons_zero, List.setIfInBounds_toArray, List.set_cons_zero, List.set_cons_succ]
                  refine wpAnyH_take (i := 20) (v := ?_) rfl (by kernel_rfl) (by kernel_rfl) (by kernel_rfl) (fun _ _ _ h => h) (Or.inl ⟨by rfl, ?_⟩) (by assumption) ?_
                  rotate_left
                  · intro Wq hSw
                    clear hSw
                    go_simp
                    all_goals (with_reducible rfl)
                  try simp only [Act.put, List.getElem_toArray, List.getElem_cons_succ, List.getElem_cons_zero, List.setIfInBounds_toArray, List.set_cons_zero, List.set_cons_succ]
                  refine wpAnyH_take (i := 21) (v := ?_) rfl (by kernel_rfl) (by kernel_rfl) (by kernel_rfl) (fun _ _ _ h => h) (Or.inl ⟨by rfl, ?_⟩) (by assumption) ?_
                  rotate_left
                  · intro Wq hSw
                    have b1 : ((i : Int) < (l.length : Int)) = True := eq_true (by omega)
                    have d1 : (i < l.length) = True := eq_true (by omega)
                    have c1 : ((0 : Int) ≤ (i : Int)) = True := eq_true (by omega)
                    clear hSw
                    go_simp
                    all_goals (with_reducible rfl)
                  try simp only [Act.put, List.getElem_toArray, List.getElem_cons_succ, List.getElem_cons_zero, List.setIfInBounds_toArray, List.set_cons_zero, List.set_cons_succ]
                  refine wpAnyH_take (i := 22) (v := ?_) rfl (by kernel_rfl) (by kernel_rfl) (by kernel_rfl) (fun _ _ _ h => h) (Or.inl ⟨by rfl, ?_⟩) (by assumption) ?_
                  rotate_left
                  · intro Wq hSw
                    clear hSw
                    go_simp
                    all_goals (with_reducible rfl)
                  try simp only [Act.put, List.getElem_toArray, List.getElem_cons_succ, List.getElem_cons_zero, List.setIfInBounds_toArray, List.set_cons_zero, List.set_cons_succ]
                  refine wpAnyH_take (i := 23) (v := ?_) rfl (by kernel_rfl) (by kernel_rfl) (by kernel_rfl) (fun _ _ _ h => h) (Or.inl ⟨by rfl, ?_⟩) (by assumption) ?_
                  rotate_left
                  · intro Wq hSw
                    obtain ⟨k0, k1⟩ := ptRow_at (HL.out.below (bl_trans HBi.out hSw)) hil HT.out
                    clear hSw
                    go_simp
                    all_goals (with_reducible rfl)
                  try simp only [Act.put, List.getElem_toArray, List.getElem_cons_succ, List.getElem_cons_zero, List.setIfInBounds_toArray, List.set_cons_zero, List.set_cons_succ]
                  refine wpAnyH_take (i := 24) (v := ?_) rfl (by kernel_rfl) (by kernel_rfl) (by kernel_rfl) (fun _ _ _ h => h) (Or.inl ⟨by rfl, ?_⟩) (by assumption) ?_
                  rotate_left
                  · intro Wq hSw
                    clear hSw
                    go_simp
                    all_goals (with_reducible rfl)
                  try simp only [Act.put, List.getElem_toArray, List.getElem_cons_succ, List.getElem_cons_zero, List.setIfInBounds_toArray, List.set_cons_zero, List.set_cons_succ]
                  refine wpAnyH_take (i := 25) (v := ?_) rfl (by kernel_rfl) (by kernel_rfl) (by kernel_rfl) (fun _ _ _ h => h) (Or.inl ⟨by rfl, ?_⟩) (by assumption) ?_
                  rotate_left
                  · intro Wq hSw
                    clear hSw
                    go_simp
                    all_goals (with_reducible rfl)
                  try simp only [Act.put, List.getElem_toArray, List.getElem_cons_succ, List.getElem_cons_zero, List.setIfInBounds_toArray, List.set_cons_zero, List.set_cons_succ]
                  refine wpAnyH_take (i := 26) (v := ?_) rfl (by kernel_rfl) (by kernel_rfl) (by kernel_rfl) (fun _ _ _ h => h) (Or.inl ⟨by rfl, ?_⟩) (by assumption) ?_
                  rotate_left
                  · intro Wq hSw
                    clear hSw
                    go_simp
                    all_goals (with_reducible rfl)
                  try simp only [Act.put, List.getElem_toArray, List.getElem_cons_succ, List.getElem_cons_zero, List.setIfInBounds_toArray, List.set_cons_zero, List.set_cons_succ]
                  refine wpAnyH_done (by kernel_rfl) ?_ _
                  go_wp2_with fail
                  go_meet
                  case rel => exact ⟨by rw [HV.out], hHeld⟩
              case neg =>
                have HV : Hid (sm = false) := by have := HSM.out; unfold Hid; cases sm <;> simp_all
                have b6 : (sx = tx) = False := eq_false e1
                have b8 : (sx = ty) = False := eq_false e3
                clear e1 e3
                refine wp_region_held_drew (S := fun V => Below WC.heap.size WC V) (by kernel_rfl) ?_ (fun hHeld => ?_)
                · exact bel_drew WC
                revert hHeld
                generalize World.drew _ = W1
                intro hHeld 
                refine wpAnyH_take (i := 0) (v := ?_) rfl (by kernel_rfl) (by kernel_rfl) (by kernel_rfl) (fun _ _ _ h => h) (Or.inl ⟨by rfl, ?_⟩) (by assumption) ?_
                rotate_left
                · intro Wq hSw
                  clear hSw
                  go_simp
                  all_goals (with_reducible rfl)
                try simp only [Act.put, List.getElem_toArray, List.getElem_cons_zero, List.setIfInBounds_toArray, List.set_cons_zero, List.set_cons_succ]
                refine wpAnyH_take (i := 1) (v := ?_) rfl (by kernel_rfl) (by kernel_rfl) (by kernel_rfl) (fun _ _ _ h => h) (Or.inl ⟨by rfl, ?_⟩) (by assumption) ?_
                rotate_left
                · intro Wq hSw
                  clear hSw
                  go_simp
                  all_goals (with_reducible rfl)
                try simp only [Act.put, List.getElem_toArray, List.getElem_cons_succ, List.getElem_cons_zero, List.setIfInBounds_toArray, List.set_cons_zero, List.set_cons_succ]
                refine wpAnyH_take (i := 2) (v := ?_) rfl (by kernel_rfl) (by kernel_rfl) (by kernel_rfl) (fun _ _ _ h => h) (Or.inl ⟨by rfl, ?_⟩) (by assumption) ?_
                rotate_left
                · intro Wq hSw
                  have b1 : ((j : Int) < (l.length : Int)) = True := eq_true (by omega)
                  have d1 : (j < l.length) = True := eq_true (by omega)
                  have c1 : ((0 : Int) ≤ (j : Int)) = True := eq_true (by omega)
                  clear hSw
                  go_simp
                  all_goals (with_reducible rfl)
                try simp only [Act.put, List.getElem_toArray, List.getElem_cons_succ, List.getElem_cons_zero, List.setIfInBounds_toArray, List.set_cons_zero, List.set_cons_succ]
                refine wpAnyH_take (i := 3) (v := ?_) rfl (by kernel_rfl) (by kernel_rfl) (by kernel_rfl) (fun _ _ _ h => h) (Or.inl ⟨by rfl, ?_⟩) (by assumption) ?_
                rotate_left
                · intro Wq hSw
                  obtain ⟨k0, k1⟩ := ptRow_at (HS8.out.below (bl_trans HBi.out hSw)) hjS HS.out
                  clear hSw
                  go_simp
                  all_goals (with_reducible rfl)
                try simp only [Act.put, List.getElem_toArray, List.getElem_cons_succ, List.getElem_cons_zero, List.setIfInBounds_toArray, List.set_cons_zero, List.set_cons_succ]
                refine wpAnyH_take (i := 4) (v := ?_) rfl (by kernel_rfl) (by kernel_rfl) (by kernel_rfl) (fun _ _ _ h => h) (Or.inl ⟨by rfl, ?_⟩) (by assumption) ?_
                rotate_left
                · intro Wq hSw
                  clear hSw
                  go_simp
                  all_goals (with_reducible rfl)
                try simp only [Act.put, List.getElem_toArray, List.getElem_cons_succ, List.getElem_cons_zero, List.setIfInBounds_toArray, List.set_cons_zero, List.set_cons_succ]
                refine wpAnyH_take (i := 5) (v := ?_) rfl (by kernel_rfl) (by kernel_rfl) (by kernel_rfl) (fun _ _ _ h => h) (Or.inl ⟨by rfl, ?_⟩) (by assumption) ?_
                rotate_left
                · intro Wq hSw
                  clear hSw
                  go_simp
                  all_goals (with_reducible rfl)
                try simp only [Act.put, List.getElem_toArray, List.getElem_cons_succ, List.getElem_cons_zero, List.setIfInBounds_toArray, List.set_cons_zero, List.set_cons_succ]
                refine wpAnyH_take (i := 6) (v := ?_) rfl (by kernel_rfl) (by kernel_rfl) (by kernel_rfl) (fun _ _ _ h => h) (Or.inl ⟨by rfl, ?_⟩) (by assumption) ?_
                rotate_left
                · intro Wq hSw
                  have b1 : ((i : Int) < (l.length : Int)) = True := eq_true (by omega)
                  have d1 : (i < l.length) = True := eq_true (by omega)
                  have c1 : ((0 : Int) ≤ (i : Int)) = True := eq_true (by omega)
                  clear hSw
                  go_simp
                  all_goals (with_reducible rfl)
                try simp only [Act.put, List.getElem_toArray, List.getElem_cons_succ, List.getElem_cons_zero, List.setIfInBounds_toArray, List.set_cons_zero, List.set_cons_succ]
                refine wpAnyH_take (i := 7) (v := ?_) rfl (by kernel_rfl) (by kernel_rfl) (by kernel_rfl) (fun _ _ _ h => h) (Or.inl ⟨by rfl, ?_⟩) (by assumption) ?_
                rotate_left
                · intro Wq hSw
                  obtain ⟨k0, k1⟩ := ptRow_at (HL.out.below (bl_trans HBi.out hSw)) hil HT.out
                  clear hSw
                  go_simp
                  all_goals (with_reducible rfl)
                try simp only [Act.put, List.getElem_toArray, List.getElem_cons_succ, List.getElem_cons_zero, List.setIfInBounds_toArray, List.set_cons_zero, List.set_cons_succ]
                refine wpAnyH_take (i := 8) (v := ?_) rfl (by kernel_rfl) (by kernel_rfl) (by kernel_rfl) (fun _ _ _ h => h) (Or.inl ⟨by rfl, ?_⟩) (by assumption) ?_
                rotate_left
                · intro Wq hSw
                  clear hSw
                  go_simp
                  all_goals (with_reducible rfl)
                try simp only [Act.put, List.getElem_toArray, List.getElem_cons_succ, List.getElem_cons_zero, List.setIfInBounds_toArray, List.set_cons_zero, List.set_cons_succ]
                refine wpAnyH_take (i := 9) (v := ?_) rfl (by kernel_rfl) (by kernel_rfl) (by kernel_rfl) (fun _ _ _ h => h) (Or.inl ⟨by rfl, ?_⟩) (by assumption) ?_
                rotate_left
                · intro Wq hSw
                  clear hSw
                  go_simp
                  all_goals (with_reducible rfl)
                try simp only [Act.put, List.getElem_toArray, List.getElem_cons_succ, List.getElem_cons_zero, List.setIfInBounds_toArray, List.set_cons_zero, List.set_cons_succ]
                refine wpAnyH_take (i := 10) (v := ?_) rfl (by kernel_rfl) (by kernel_rfl) (by kernel_rfl) (fun _ _ _ h => h) (Or.inl ⟨by rfl, ?_⟩) (by assumption) ?_
                rotate_left
                · intro Wq hSw
                  clear hSw
                  go_simp
                  all_goals (with_reducible rfl)
                try simp only [Act.put, List.getElem_toArray, List.getElem_cons_succ, List.getElem_cons_zero, List.setIfInBounds_toArray, List.set_cons_zero, List.set_cons_succ]
                refine wpAnyH_take (i := 11) (v := ?_) rfl (by kernel_rfl) (by kernel_rfl) (by kernel_rfl) (fun _ _ _ h => h) (Or.inl ⟨by rfl, ?_⟩) (by assumption) ?_
                rotate_left
                · intro Wq hSw
                  clear hSw
                  go_simp
                  all_goals (with_reducible rfl)
                try simp only [Act.put, List.getElem_toArray, List.getElem_cons_succ, List.getElem_cons_zero, List.setIfInBounds_toArray, List.set_cons_zero, List.set_cons_succ]
                refine wpAnyH_take (i := 12) (v := ?_) rfl (by kernel_rfl) (by kernel_rfl) (by kernel_rfl) (fun _ _ _ h => h) (Or.inl ⟨by rfl, ?_⟩) (by assumption) ?_
                rotate_left
                · intro Wq hSw
                  have b1 : ((j : Int) < (l.length : Int)) = True := eq_true (by omega)
                  have d1 : (j < l.length) = True := eq_true (by omega)
                  have c1 : ((0 : Int) ≤ (j : Int)) = True := eq_true (by omega)
                  clear hSw
                  go_simp
                  all_goals (with_reducible rfl)
                try simp only [Act.put, List.getElem_toArray, List.getElem_cons_succ, List.getElem_cons_zero, List.setIfInBounds_toArray, List.set_cons_zero, List.set_cons_succ]
                refine wpAnyH_take (i := 13) (v := ?_) rfl (by kernel_rfl) (by kernel_rfl) (by kernel_rfl) (fun _ _ _ h => h) (Or.inl ⟨by rfl, ?_⟩) (by assumption) ?_
                rotate_left
                · intro Wq hSw
                  obtain ⟨k0, k1⟩ := ptRow_at (HS8.out.below (bl_trans HBi.out hSw)) hjS HS.out
                  clear hSw
                  go_simp
                  all_goals (with_reducible rfl)
                try simp only [Act.put, List.getElem_toArray, List.getElem_cons_succ, List.getElem_cons_zero, List.setIfInBounds_toArray, List.set_cons_zero, List.set_cons_succ]
                refine wpAnyH_take (i := 14) (v := ?_) rfl (by kernel_rfl) (by kernel_rfl) (by kernel_rfl) (fun _ _ _ h => h) (Or.inl ⟨by rfl, ?_⟩) (by assumption) ?_
                rotate_left
                · intro Wq hSw
                  clear hSw
                  go_simp
                  all_goals (with_reducible rfl)
                try simp only [Act.put, List.getElem_toArray, List.getElem_cons_succ, List.getElem_cons_zero, List.setIfInBounds_toArray, List.set_cons_zero, List.set_cons_succ]
                refine wpAnyH_take (i := 15) (v := ?_) rfl (by kernel_rfl) (by kernel_rfl) (by kernel_rfl) (fun _ _ _ h => h) (Or.inl ⟨by rfl, ?_⟩) (by assumption) ?_
                rotate_left
                · intro Wq hSw
                  clear hSw
                  go_simp
                  all_goals (with_reducible rfl)
                try simp only [Act.put, List.getElem_toArray, List.getElem_cons_succ, List.getElem_cons_zero, List.setIfInBounds_toArray, List.set_cons_zero, List.set_cons_succ]
                refine wpAnyH_take (i := 16) (v := ?_) rfl (by kernel_rfl) (by kernel_rfl) (by kernel_rfl) (fun _ _ _ h => h) (Or.inl ⟨by rfl, ?_⟩) (by assumption) ?_
                rotate_left
                · intro Wq hSw
                  have b1 : ((i : Int) < (l.length : Int)) = True := eq_true (by omega)
                  have d1 : (i < l.length) = True := eq_true (by omega)
                  have c1 : ((0 : Int) ≤ (i : Int)) = True := eq_true (by omega)
                  clear hSw
                  go_simp
                  all_goals (with_reducible rfl)
                try simp only [Act.put, List.getElem_toArray, List.getElem_cons_succ, List.getElem_cons_zero, List.setIfInBounds_toArray, List.set_cons_zero, List.set_cons_succ]
                refine wpAnyH_take (i := 17) (v := ?_) rfl (by kernel_rfl) (by kernel_rfl) (by kernel_rfl) (fun _ _ _ h => h) (Or.inl ⟨by rfl, ?_⟩) (by assumption) ?_
                rotate_left
                · intro Wq hSw
                  clear hSw
                  go_simp
                  all_goals (with_reducible rfl)
                try simp only [Act.put, List.getElem_toArray, List.getElem_cons_succ, List.getElem_cons_zero, List.setIfInBounds_toArray, List.set_cons_zero, List.set_cons_succ]
                refine wpAnyH_take (i := 18) (v := ?_) rfl (by kernel_rfl) (by kernel_rfl) (by kernel_rfl) (fun _ _ _ h => h) (Or.inl ⟨by rfl, ?_⟩) (by assumption) ?_
                rotate_left
                · intro Wq hSw
                  obtain ⟨k0, k1⟩ := ptRow_at (HL.out.below (bl_trans HBi.out hSw)) hil HT.out
                  clear hSw
                  go_simp
                  all_goals (with_reducible rfl)
                try simp only [Act.put, List.getElem_toArray, List.getElem_cons_succ, List.getElem_cons_zero, List.setIfInBounds_toArray, List.set_cons_zero, List.set_cons_succ]
                refine wpAnyH_take (i := 19) (v := ?_) rfl (by kernel_rfl) (by kernel_rfl) (by kernel_rfl) (fun _ _ _ h => h) (Or.inl ⟨by rfl, ?_⟩) (by assumption) ?_
                rotate_left
                · intro Wq hSw
                  clear hSw
                  go_simp
                  all_goals (with_reducible rfl)
                try simp only [Act.put, List.getElem_toArray, List.getElem_cons_succ, List.getElem_cons_zero, List.setIfInBounds_toArray, List.set_cons_zero, List.set_cons_succ]
                refine wpAnyH_take (i := 20) (v := ?_) rfl (by kernel_rfl) (by kernel_rfl) (by kernel_rfl) (fun _ _ _ h => h) (Or.inl ⟨by rfl, ?_⟩) (by assumption) ?_
                rotate_left
                · intro Wq hSw
                  clear hSw
                  go_simp
                  all_goals (with_reducible rfl)
                try simp only [Act.put, List.getElem_toArray, List.getElem_cons_succ, List.getElem_cons_zero, List.setIfInBounds_toArray, List.set_cons_zero, List.set_cons_succ]
                refine wpAnyH_take (i := 21) (v := ?_) rfl (by kernel_rfl) (by kernel_rfl) (by kernel_rfl) (fun _ _ _ h => h) (Or.inl ⟨by rfl, ?_⟩) (by assumption) ?_
                rotate_left
                · intro Wq hSw
                  have b1 : ((i : Int) < (l.length : Int)) = True := eq_true (by omega)
                  have d1 : (i < l.length) = True := eq_true (by omega)
                  have c1 : ((0 : Int) ≤ (i : Int)) = True := eq_true (by omega)
                  clear hSw
                  go_simp
                  all_goals (with_reducible rfl)
                try simp only [Act.put, List.getElem_toArray, List.getElem_cons_succ, List.getElem_cons_zero, List.setIfInBounds_toArray, List.set_cons_zero, List.set_cons_succ]
                refine wpAnyH_take (i := 22) (v := ?_) rfl (by kernel_rfl) (by kernel_rfl) (by kernel_rfl) (fun _ _ _ h => h) (Or.inl ⟨by rfl, ?_⟩) (by assumption) ?_
                rotate_left
                · intro Wq hSw
                  clear hSw
                  go_simp
                  all_goals (with_reducible rfl)
                try simp only [Act.put, List.getElem_toArray, List.getElem_cons_succ, List.getElem_cons_zero, List.setIfInBounds_toArray, List.set_cons_zero, List.set_cons_succ]
                refine wpAnyH_take (i := 23) (v := ?_) rfl (by kernel_rfl) (by kernel_rfl) (by kernel_rfl) (fun _ _ _ h => h) (Or.inl ⟨by rfl, ?_⟩) (by assumption) ?_
                rotate_left
                · intro Wq hSw
                  obtain ⟨k0, k1⟩ := ptRow_at (HL.out.below (bl_trans HBi.out hSw)) hil HT.out
                  clear hSw
                  go_simp
                  all_goals (with_reducible rfl)
                try simp only [Act.put, List.getElem_toArray, List.getElem_cons_succ, List.getElem_cons_zero, List.setIfInBounds_toArray, List.set_cons_zero, List.set_cons_succ]
                refine wpAnyH_take (i := 24) (v := ?_) rfl (by kernel_rfl) (by kernel_rfl) (by kernel_rfl) (fun _ _ _ h => h) (Or.inl ⟨by rfl, ?_⟩) (by assumption) ?_
                rotate_left
                · intro Wq hSw
                  clear hSw
                  go_simp
                  all_goals (with_reducible rfl)
                try simp only [Act.put, List.getElem_toArray, List.getElem_cons_succ, List.getElem_cons_zero, List.setIfInBounds_toArray, List.set_cons_zero, List.set_cons_succ]
                refine wpAnyH_take (i := 25) (v := ?_) rfl (by kernel_rfl) (by kernel_rfl) (by kernel_rfl) (fun _ _ _ h => h) (Or.inl ⟨by rfl, ?_⟩) (by assumption) ?_
                rotate_left
                · intro Wq hSw
                  clear hSw
                  go_simp
                  all_goals (with_reducible rfl)
                try simp only [Act.put, List.getElem_toArray, List.getElem_cons_succ, List.getElem_cons_zero, List.setIfInBounds_toArray, List.set_cons_zero, List.set_cons_succ]
                refine wpAnyH_take (i := 26) (v := ?_) rfl (by kernel_rfl) (by kernel_rfl) (by kernel_rfl) (fun _ _ _ h => h) (Or.inl ⟨by rfl, ?_⟩) (by assumption) ?_
                rotate_left
                · intro Wq hSw
                  clear hSw
                  go_simp
                  all_goals (with_reducible rfl)
                try simp only [Act.put, List.getElem_toArray, List.getElem_cons_succ, List.getElem_cons_zero, List.setIfInBounds_toArray, List.set_cons_zero, List.set_cons_succ]
                refine wpAnyH_done (by kernel_rfl) ?_ _
                go_wp2_with fail
                go_meet
                case rel => exact ⟨by rw [HV.out], hHeld⟩
          case rest =>
          obtain ⟨rfl, hbc⟩ := hcut
          replace HBi := Lib.hid (bl_trans HBi.out hbc)
          clear hbc
          obtain ⟨m1, m2, m3, m4⟩ := N1.out
          obtain ⟨m5, m6, m7, m8⟩ := N2.out
          cases sm
          · have HC2 : Hid (cntK (fun j => sameB9 (pget (segsF L) j) ⟨tx, ty⟩) (j + 1) = ct) := HC.out
            go_wp2_with fail
            clear m1 m2 m3 m4 m5 m6 m7 m8
            exact ⟨⟨j + 1, hjl, by rw [Int.natCast_add]; rfl, by rw [HC2.out], HBi.out⟩, by simp [intOf]; omega⟩
          · have HC2 : Hid (cntK (fun j => sameB9 (pget (segsF L) j) ⟨tx, ty⟩) (j + 1) = ct + 1) := HC.out
            go_wp2_with fail
            clear m1 m2 m3 m4 m5 m6 m7 m8
            exact ⟨⟨j + 1, hjl, by rw [Int.natCast_add]; rfl, by rw [HC2.out, Int.natCast_add]; rfl, HBi.out⟩, by simp [intOf]; omega⟩
        · obtain rfl : j = l.length := by omega
          have q3 : ((l.length : Int) < (l.length : Int)) = False := eq_false (by omega)
          rw [HOne.out]
          have N1 := Lib.hid (wnum (i := i) (by omega))
          obtain ⟨m1, m2, m3, m4⟩ := N1.out
          go_wp2_with fail
          clear m1 m2 m3 m4
          exact ⟨⟨i + 1, hil, by rw [Int.natCast_add]; rfl, HBi.out⟩, by simp [intOf]; omega⟩
    · obtain rfl : i = l.length := by omega
      have q1 : ((l.length : Int) < (l.length : Int)) = False := eq_false (by omega)
      go_wp2_with fail
      go_loopw [17] (fun iv W => ∃ p : Nat, p ≤ k ∧ iv = .int .i64 p ∧ Below W0.heap.size W0 W) (fun iv _ => k - (intOf iv).toNat)
      case atStart => exact ⟨0, Nat.zero_le _, rfl, HBi.out⟩
      case round =>
        obtain ⟨p, hp9, rfl, hBp⟩ := hrel
        clear HBi
        have HBp := Lib.hid hBp
        clear hBp
        by_cases hpk : p < k
        · have t1 : ((p : Int) < (k : Int)) = True := eq_true (by omega)
          have t2 : (p < k) = True := eq_true hpk
          go_wp2_with fail
          go_loopw [18, 19] (fun cv iv W => ∃ a : Nat, a ≤ L.length ∧ iv = .int .i64 a ∧ cv = .int .i64 ((hasN L (p : Int) a 0 : Nat) : Int) ∧ Below W0.heap.size W0 W) (fun _ iv _ => L.length - (intOf iv).toNat)
          case atStart => exact ⟨0, Nat.zero_le _, rfl, by simp [hasN], HBp.out⟩
          case round =>
            obtain ⟨a, ha9, rfl, rfl, hBa⟩ := hrel
            clear HBp
            have HBp := Lib.hid hBa
            clear hBa
            by_cases haL : a < L.length
            · have t3 : ((a : Int) < (L.length : Int)) = True := eq_true (by omega)
              have t4 : (a < L.length) = True := eq_true haL
              have t5 : ((0 : Int) ≤ (a : Int)) = True := eq_true (by omega)
              obtain ⟨gr, or, rfl⟩ := HRr.out.some (by omega)
              obtain ⟨R, hR⟩ : ∃ R, L[a] = R := ⟨_, rfl⟩
              have hRd : L.getD a [] = R := by rw [← hR]; simp [List.getD, haL]
              have HRd := Lib.hid hRd
              have hRl : R.length ≤ 10000 := HLk.out.2 R (by rw [← hR]; exact List.getElem_mem _)
              obtain ⟨a5, c5, k5w, -, hI5, -⟩ := HRr.out.at haL hR
              have HK5 := Lib.hid k5w
              have HI5 := Lib.hid hI5
              clear hR k5w hI5 hRd
              go_wp2_with fail
              go_loopw [18, 20] (fun cv jv W => ∃ b : Nat, b ≤ R.length ∧ jv = .int .i64 b ∧ cv = .int .i64 ((hasN L (p : Int) a b : Nat) : Int) ∧ Below W0.heap.size W0 W) (fun _ jv _ => R.length - (intOf jv).toNat)
              case atStart => exact ⟨0, Nat.zero_le _, rfl, rfl, HBp.out⟩
              case round =>
                obtain ⟨b, hb9, rfl, rfl, hBb⟩ := hrel
                clear HBp
                have HBp := Lib.hid hBb
                clear hBb
                have k5 := (HBp.out.cell (cell_lt HK5.out)).trans HK5.out
                by_cases hbR : b < R.length
                · have t6 : ((b : Int) < (R.length : Int)) = True := eq_true (by omega)
                  have t7 : (b < R.length) = True := eq_true hbR
                  have t8 : ((0 : Int) ≤ (b : Int)) = True := eq_true (by omega)
                  obtain ⟨g5, o5, rfl⟩ := HI5.out.some (by omega)
                  obtain ⟨x, hx⟩ : ∃ x, R[b] = x := ⟨_, rfl⟩
                  have kx := intRow_at (HI5.out.below HBp.out) hbR hx
                  have hst : hasN L (p : Int) a (b + 1) = hasN L (p : Int) a b + if x = (p : Int) then 1 else 0 := by
                    subst hx
                    have h := HRd.out
                    subst h
                    exact hasN_step L (p : Int) hbR
                  have hle := hasN_le L (p : Int) (b := b) haL
                  rw [HTl.out] at hle
                  obtain ⟨ct, hct⟩ : ∃ c, hasN L (p : Int) a b = c := ⟨_, rfl⟩
                  rw [hct] at hst hle ⊢
                  have HSt := Lib.hid hst
                  have hl := Hl.out
                  have N1 := Lib.hid (wnum (i := b) (by omega))
                  have N2 := Lib.hid (wnum (i := ct) (by omega))
                  clear hx hst hct hle
                  by_cases hxp : x = (p : Int)
                  · subst hxp
                    have HS2 : Hid (hasN L (p : Int) a (b + 1) = ct + 1) := by unfold Hid; rw [HSt.out, if_pos rfl]
                    obtain ⟨m1, m2, m3, m4⟩ := N1.out
                    obtain ⟨m5, m6, m7, m8⟩ := N2.out
                    go_wp2_with fail
                    clear m1 m2 m3 m4 m5 m6 m7 m8
                    exact ⟨⟨b + 1, hbR, by rw [Int.natCast_add]; rfl, by rw [HS2.out, Int.natCast_add]; rfl, HBp.out⟩, by simp [intOf]; omega⟩
                  · have HS2 : Hid (hasN L (p : Int) a (b + 1) = ct) := by unfold Hid; rw [HSt.out, if_neg hxp, Nat.add_zero]
                    have v1 : (x = (p : Int)) = False := eq_false hxp
                    have v2 : (x == (p : Int)) = false := beq_eq_false_iff_ne.2 hxp
                    clear hxp
                    obtain ⟨m1, m2, m3, m4⟩ := N1.out
                    go_wp2_with fail
                    clear m1 m2 m3 m4
                    exact ⟨⟨b + 1, hbR, by rw [Int.natCast_add]; rfl, by rw [HS2.out], HBp.out⟩, by simp [intOf]; omega⟩
                · obtain rfl : b = R.length := by omega
                  have t6 : ((R.length : Int) < (R.length : Int)) = False := eq_false (by omega)
                  have hnx : hasN L (p : Int) a R.length = hasN L (p : Int) (a + 1) 0 := by
                    have h := HRd.out
                    subst h
                    exact hasN_next L (p : Int) haL
                  have HNx := Lib.hid hnx
                  have N1 := Lib.hid (wnum (i := a) (by have := HLk.out.1; omega))
                  clear hnx
                  obtain ⟨m1, m2, m3, m4⟩ := N1.out
                  go_wp2_with fail
                  clear m1 m2 m3 m4
                  exact ⟨⟨a + 1, haL, by rw [Int.natCast_add]; rfl, by rw [HNx.out], HBp.out⟩, by simp [intOf]; omega⟩
            · obtain rfl : a = L.length := by omega
              have t3 : ((L.length : Int) < (L.length : Int)) = False := eq_false (by omega)
              rw [hasN_all]
              have hdg := HBk.out.dg (p : Int)
              obtain ⟨ct, hct⟩ : ∃ c, L.flatten.count (p : Int) = c := ⟨_, rfl⟩
              rw [hct] at hdg ⊢
              have hpd : p < (degs k l).length := by rw [degs_len]; exact hpk
              obtain ⟨gd, od, rfl⟩ := HDr.out.some (by omega)
              have kd := intRow_at (HDr.out.below HBp.out) hpd (t := ((2 * ct : Nat) : Int)) (by rw [degs_at, hdg])
              have hdl := deg_le l (p : Int)
              have hl := Hl.out
              have t9 : ((0 : Int) ≤ (p : Int)) = True := eq_true (by omega)
              have T1 := Lib.hid (show (((2 * ct : Nat) : Int)).tdiv 2 = (ct : Int) by rw [show ((2 * ct : Nat) : Int) = 2 * (ct : Int) by omega]; exact Int.mul_tdiv_cancel_left _ (by decide))
              have N1 := Lib.hid (wnum (i := p) (by omega))
              have N2 := Lib.hid (wnum (i := ct) (by omega))
              clear hdg hct hdl
              have z1 := T1.out
              obtain ⟨m1, m2, m3, m4⟩ := N1.out
              obtain ⟨m5, m6, m7, m8⟩ := N2.out
              go_wp2_with fail
              clear m1 m2 m3 m4 m5 m6 m7 m8
              exact ⟨⟨p + 1, hpk, by rw [Int.natCast_add]; rfl, HBp.out⟩, by simp [intOf]; omega⟩
        · obtain rfl : p = k := by omega
          have t1 : ((p : Int) < (p : Int)) = False := eq_false (by omega)
          replace HB := Lib.hid (bl_trans HB.out HBp.out)
          go_wp2_with fail
          (with_reducible refine (KN.out _).mono ?_); rintro e' wk ⟨rfl, hbk⟩
          have HZ := Lib.hid (bl_trans HB.out hbk)
          clear hbk
          go_wp2_with fail
          go_ret
          exact ⟨rfl, HZ.out⟩
end Go.Proofs.Ytkidphekfnmhhaa
