/-
  Contract of ref.Order.
-/
import Derived.Test.YtmkegehkifpkjaaSMem
namespace Go.Proofs.Ytmkegehkifpkjaa
open Go.RowKit

def OrdTo (p : List Pt) (n : Nat) (l : List Int) : Prop := l.Pairwise (Ahead p) ∧ l.Perm (idx n)
theorem OrdTo.len {p : List Pt} {n : Nat} {l : List Int} (h : OrdTo p n l) : l.length = n := by rw [h.2.length_eq, idx_len]
theorem OrdTo.at {p : List Pt} {n : Nat} {l : List Int} (h : OrdTo p n l) {m : Nat} (hm : m < l.length) : 0 ≤ l[m] ∧ l[m] < n := idx_mem.1 (h.2.mem_iff.1 (List.getElem_mem hm))
theorem ordTo_step {p : List Pt} {n k : Nat} {l l' : List Int} (h : OrdTo p n l) (h1 : ∀ m (h : m < l.length), m < k → ltI p n l[m] = false) (h2 : ∀ h : k < l.length, ltI p n l[k] = true) (e : l' = l.take k ++ (n : Int) :: l.drop k) : OrdTo p (n + 1) l' := by
  subst e
  exact ⟨ins_ahead p l n k h.1 (fun j hj => (idx_mem.1 (h.2.mem_iff.1 hj)).2) h1 h2, ins_all l k n h.2⟩
set_option maxHeartbeats 8000000 in
set_option maxRecDepth 100000 in
theorem refOrder_l (p : List Pt) (ad : Option Addr) (cap : Nat) (w : World) (hP : PtRow w ad p) (hlen : p.length ≤ 10000) :
    Calls Try.prog 14 #[.slice ad p.length cap] w fun e w' => ∃ v, e = .returned v ∧ Oi w v (msort (ltI p) (idx p.length)) w' := by
  have HP := Lib.hid hP
  clear hP
  go_enter Try.func14, Try.ntmps14
  go_wp2_with fail
  go_loopw [3, 4] (fun out iv W => ∃ (i : Nat) (l : List Int), iv = .int .i64 i ∧ i ≤ p.length ∧ OrdTo p i l ∧ Oi w out l W) (fun _ iv _ => p.length - (intOf iv).toNat)
  case atStart => exact ⟨0, [], rfl, Nat.zero_le _, ⟨List.Pairwise.nil, List.Perm.refl _⟩, oi_nil w⟩
  case round =>
    obtain ⟨i, l, rfl, hile, hord, hO⟩ := hrel
    obtain ⟨W0, eW⟩ : ∃ W0, W0 = wr := ⟨_, rfl⟩
    subst eW
    have HBW := Lib.hid hO.hb
    have hll := hord.len
    have HORD := Lib.hid hord
    obtain ⟨ad3, cp3, rfl, hcp3, hI, hn⟩ := hO.slice
    have HI3 := Lib.hid hI
    have HN3 := Lib.hid hn
    have HO3 := Lib.hid hO
    have HLL := Lib.hid hll
    clear hI hn hO hord
    by_cases hi : i < p.length
    · have b0 : ((i : Int) < (p.length : Int)) = True := eq_true (by omega)
      have d0 : (i < p.length) = True := eq_true (by omega)
      have c0 : ((0 : Int) ≤ (i : Int)) = True := eq_true (by omega)
      have hl9 : l.length ≤ 10000 := by omega
      have hil : l.length ≤ i := by omega
      clear hll
      go_wp2_with fail
      go_loopw [5, 6] (fun lv kv W => ∃ k : Nat, kv = .int .i64 k ∧ k ≤ l.length ∧ (∀ m (h : m < l.length), m < k → ltI p i l[m] = false) ∧ Oi W0 lv (l.take k) W) (fun _ kv _ => l.length - (intOf kv).toNat)
      case atStart => exact ⟨0, rfl, Nat.zero_le _, fun m _ h => absurd h (Nat.not_lt_zero _), by rw [List.take_zero]; exact oi_nil _⟩
      case round =>
        obtain ⟨k, rfl, hkl, hk0, hO⟩ := hrel
        have HO := Lib.hid hO
        have HK := Lib.hid hk0
        clear hO hk0
        have HPi := Lib.hid ((HP.out.below HBW.out).below HO.out.hb)
        have HIi := Lib.hid (HI3.out.below HO.out.hb)
        obtain ⟨g, o, rfl⟩ := HPi.out.some (by omega)
        by_cases hk : k < l.length
        · have hat := HORD.out.at hk
          obtain ⟨j, hEj⟩ := Int.eq_ofNat_of_zero_le hat.1
          have hj : j < p.length := by omega
          have HE := Lib.hid hEj
          obtain ⟨g3, o3, rfl⟩ := HI3.out.some (by omega)
          have ckk : ((0 : Int) ≤ (k : Int)) = True := eq_true (by omega)
          cases hls : lessP (pget p i) (pget p j) with
          | true =>
            have HLS := Lib.hid hls
            have HLT : Hid (ltI p (i : Int) l[k] = true) := by
              unfold Hid ltI
              rw [hEj, pg_cast, pg_cast]
              exact hls
            clear hls hEj hat
            go_wp2_with fail
            refine wp_region_held_drew (S := fun V => Below wr.heap.size wr V) (by kernel_rfl) ?_ (fun hHeld => ?_)
            · exact bel_drew wr
            revert hHeld
            generalize World.drew _ = W1
            intro hHeld 
            refine wpAnyH_take (i := 0) (v := ?_) rfl (by kernel_rfl) (by kernel_rfl) (by kernel_rfl) (fun _ _ _ h => h) (Or.inl ⟨by rfl, ?_⟩) (by assumption) ?_
            rotate_left
            · intro Wq hSw
              clear hSw
              go_simp
              all_goals (with_reducible rfl)
            try simp only [Act.put, List.getElem_toArray, List.getElem_cons_zero, List.setIfInBounds_toArray, List.set_cons_zero, List.set_cons_succ]
            refine wpAnyH_take (i := 1) (v := ?_) rfl (by kernel_rfl) (by kernel_rfl) (by kernel_rfl) (fun _ _ _ h => h) (Or.inl ⟨by rfl, ?_⟩) (by assumption) ?_
            rotate_left
            · intro Wq hSw
              clear hSw
              go_simp
              all_goals (with_reducible rfl)
            try simp only [Act.put, List.getElem_toArray, List.getElem_cons_succ, List.getElem_cons_zero, List.setIfInBounds_toArray, List.set_cons_zero, List.set_cons_succ]
            refine wpAnyH_take (i := 2) (v := ?_) rfl (by kernel_rfl) (by kernel_rfl) (by kernel_rfl) (fun _ _ _ h => h) (Or.inl ⟨by rfl, ?_⟩) (by assumption) ?_
            rotate_left
            · intro Wq hSw
              clear hSw
              go_simp
              all_goals (with_reducible rfl)
            try simp only [Act.put, List.getElem_toArray, List.getElem_cons_succ, List.getElem_cons_zero, List.setIfInBounds_toArray, List.set_cons_zero, List.set_cons_succ]
            refine wpAnyH_take (i := 3) (v := ?_) rfl (by kernel_rfl) (by kernel_rfl) (by kernel_rfl) (fun _ _ _ h => h) (Or.inl ⟨by rfl, ?_⟩) (by assumption) ?_
            rotate_left
            · intro Wq hSw
              have b1 : ((k : Int) < (l.length : Int)) = True := eq_true (by omega)
              have d1 : (k < l.length) = True := eq_true (by omega)
              have c1 : ((0 : Int) ≤ (k : Int)) = True := eq_true (by omega)
              clear hSw
              go_simp
              all_goals (with_reducible rfl)
            try simp only [Act.put, List.getElem_toArray, List.getElem_cons_succ, List.getElem_cons_zero, List.setIfInBounds_toArray, List.set_cons_zero, List.set_cons_succ]
            refine wpAnyH_take (i := 4) (v := ?_) rfl (by kernel_rfl) (by kernel_rfl) (by kernel_rfl) (fun _ _ _ h => h) (Or.inl ⟨by rfl, ?_⟩) (by assumption) ?_
            rotate_left
            · intro Wq hSw
              clear hSw
              go_simp
              all_goals (with_reducible rfl)
            try simp only [Act.put, List.getElem_toArray, List.getElem_cons_succ, List.getElem_cons_zero, List.setIfInBounds_toArray, List.set_cons_zero, List.set_cons_succ]
            refine wpAnyH_take (i := 5) (v := ?_) rfl (by kernel_rfl) (by kernel_rfl) (by kernel_rfl) (fun _ _ _ h => h) (Or.inl ⟨by rfl, ?_⟩) (by assumption) ?_
            rotate_left
            · intro Wq hSw
              clear hSw
              go_simp
              all_goals (with_reducible rfl)
            try simp only [Act.put, List.getElem_toArray, List.getElem_cons_succ, List.getElem_cons_zero, List.setIfInBounds_toArray, List.set_cons_zero, List.set_cons_succ]
            refine wpAnyH_take (i := 6) (v := ?_) rfl (by kernel_rfl) (by kernel_rfl) (by kernel_rfl) (fun _ _ _ h => h) (Or.inl ⟨by rfl, ?_⟩) (by assumption) ?_
            rotate_left
            · intro Wq hSw
              clear hSw
              go_simp
              all_goals (with_reducible rfl)
            try simp only [Act.put, List.getElem_toArray, List.getElem_cons_succ, List.getElem_cons_zero, List.setIfInBounds_toArray, List.set_cons_zero, List.set_cons_succ]
            refine wpAnyH_take (i := 7) (v := ?_) rfl (by kernel_rfl) (by kernel_rfl) (by kernel_rfl) (fun _ _ _ h => h) (Or.inl ⟨by rfl, ?_⟩) (by assumption) ?_
            rotate_left
            · intro Wq hSw
              have b1 : ((i : Int) < (p.length : Int)) = True := eq_true (by omega)
              have d1 : (i < p.length) = True := eq_true (by omega)
              have c1 : ((0 : Int) ≤ (i : Int)) = True := eq_true (by omega)
              clear hSw
              go_simp
              all_goals (with_reducible rfl)
            try simp only [Act.put, List.getElem_toArray, List.getElem_cons_succ, List.getElem_cons_zero, List.setIfInBounds_toArray, List.set_cons_zero, List.set_cons_succ]
            refine wpAnyH_take (i := 8) (v := ?_) rfl (by kernel_rfl) (by kernel_rfl) (by kernel_rfl) (fun _ _ _ h => h) (Or.inl ⟨by rfl, ?_⟩) (by assumption) ?_
            rotate_left
            · intro Wq hSw
              obtain ⟨k0, k1⟩ := ptRow_at (HPi.out.below hSw) (i := i) hi (t := pget p i) rfl
              clear hSw
              go_simp
              all_goals (with_reducible rfl)
            try simp only [Act.put, List.getElem_toArray, List.getElem_cons_succ, List.getElem_cons_zero, List.setIfInBounds_toArray, List.set_cons_zero, List.set_cons_succ]
            refine wpAnyH_take (i := 9) (v := ?_) rfl (by kernel_rfl) (by kernel_rfl) (by kernel_rfl) (fun _ _ _ h => h) (Or.inl ⟨by rfl, ?_⟩) (by assumption) ?_
            rotate_left
            · intro Wq hSw
              clear hSw
              go_simp
              all_goals (with_reducible rfl)
            try simp only [Act.put, List.getElem_toArray, List.getElem_cons_succ, List.getElem_cons_zero, List.setIfInBounds_toArray, List.set_cons_zero, List.set_cons_succ]
            refine wpAnyH_take (i := 10) (v := ?_) rfl (by kernel_rfl) (by kernel_rfl) (by kernel_rfl) (fun _ _ _ h => h) (Or.inl ⟨by rfl, ?_⟩) (by assumption) ?_
            rotate_left
            · intro Wq hSw
              clear hSw
              go_simp
              all_goals (with_reducible rfl)
            try simp only [Act.put, List.getElem_toArray, List.getElem_cons_succ, List.getElem_cons_zero, List.setIfInBounds_toArray, List.set_cons_zero, List.set_cons_succ]
            refine wpAnyH_take (i := 11) (v := ?_) rfl (by kernel_rfl) (by kernel_rfl) (by kernel_rfl) (fun _ _ _ h => h) (Or.inl ⟨by rfl, ?_⟩) (by assumption) ?_
            rotate_left
            · intro Wq hSw
              clear hSw
              go_simp
              all_goals (with_reducible rfl)
            try simp only [Act.put, List.getElem_toArray, List.getElem_cons_succ, List.getElem_cons_zero, List.setIfInBounds_toArray, List.set_cons_zero, List.set_cons_succ]
            refine wpAnyH_take (i := 12) (v := ?_) rfl (by kernel_rfl) (by kernel_rfl) (by kernel_rfl) (fun _ _ _ h => h) (Or.inl ⟨by rfl, ?_⟩) (by assumption) ?_
            rotate_left
            · intro Wq hSw
              have b1 : ((k : Int) < (l.length : Int)) = True := eq_true (by omega)
              have d1 : (k < l.length) = True := eq_true (by omega)
              have c1 : ((0 : Int) ≤ (k : Int)) = True := eq_true (by omega)
              clear hSw
              go_simp
              all_goals (with_reducible rfl)
            try simp only [Act.put, List.getElem_toArray, List.getElem_cons_succ, List.getElem_cons_zero, List.setIfInBounds_toArray, List.set_cons_zero, List.set_cons_succ]
            refine wpAnyH_take (i := 13) (v := ?_) rfl (by kernel_rfl) (by kernel_rfl) (by kernel_rfl) (fun _ _ _ h => h) (Or.inl ⟨by rfl, ?_⟩) (by assumption) ?_
            rotate_left
            · intro Wq hSw
              have k0 := intRow_at (HIi.out.below hSw) hk HE.out
              clear hSw
              go_simp
              all_goals (with_reducible rfl)
            try simp only [Act.put, List.getElem_toArray, List.getElem_cons_succ, List.getElem_cons_zero, List.setIfInBounds_toArray, List.set_cons_zero, List.set_cons_succ]
            refine wpAnyH_take (i := 14) (v := ?_) rfl (by kernel_rfl) (by kernel_rfl) (by kernel_rfl) (fun _ _ _ h => h) (Or.inl ⟨by rfl, ?_⟩) (by assumption) ?_
            rotate_left
            · intro Wq hSw
              have b1 : ((j : Int) < (p.length : Int)) = True := eq_true (by omega)
              have d1 : (j < p.length) = True := eq_true (by omega)
              have c1 : ((0 : Int) ≤ (j : Int)) = True := eq_true (by omega)
              clear hSw
              go_simp
              all_goals (with_reducible rfl)
            try simp only [Act.put, List.getElem_toArray, List.getElem_cons_succ, List.getElem_cons_zero, List.setIfInBounds_toArray, List.set_cons_zero, List.set_cons_succ]
            refine wpAnyH_take (i := 15) (v := ?_) rfl (by kernel_rfl) (by kernel_rfl) (by kernel_rfl) (fun _ _ _ h => h) (Or.inl ⟨by rfl, ?_⟩) (by assumption) ?_
            rotate_left
            · intro Wq hSw
              obtain ⟨k0, k1⟩ := ptRow_at (HPi.out.below hSw) (i := j) hj (t := pget p j) rfl
              clear hSw
              go_simp
              all_goals (with_reducible rfl)
            try simp only [Act.put, List.getElem_toArray, List.getElem_cons_succ, List.getElem_cons_zero, List.setIfInBounds_toArray, List.set_cons_zero, List.set_cons_succ]
            refine r1 (i := 16) rfl (fun K hK => ?_)
            go_simp
            (with_reducible refine (refLess_l (pget p i) (pget p j) _).mono ?_)
            rintro e w1 ⟨rfl, hb1⟩
            rw [HLS.out]
            go_wp2_with fail
            refine hK.out _ _ (bl_trans hHeld hb1) (fun hHeld2 => ?_)
            clear hK K hHeld
            have hHeld := hHeld2
            clear hHeld2
            try simp only [Act.put, List.getElem_toArray, List.getElem_cons_succ, List.getElem_cons_zero, List.setIfInBounds_toArray, List.set_cons_zero, List.set_cons_succ]
            refine wpAnyH_take (i := 17) (v := ?_) rfl (by kernel_rfl) (by kernel_rfl) (by kernel_rfl) (fun _ _ _ h => h) (Or.inl ⟨by rfl, ?_⟩) (by assumption) ?_
            rotate_left
            · intro Wq hSw
              clear hSw
              go_simp
              all_goals (with_reducible rfl)
            try simp only [Act.put, List.getElem_toArray, List.getElem_cons_succ, List.getElem_cons_zero, List.setIfInBounds_toArray, List.set_cons_zero, List.set_cons_succ]
            refine wpAnyH_take (i := 18) (v := ?_) rfl (by kernel_rfl) (by kernel_rfl) (by kernel_rfl) (fun _ _ _ h => h) (Or.inl ⟨by rfl, ?_⟩) (by assumption) ?_
            rotate_left
            · intro Wq hSw
              clear hSw
              go_simp
              all_goals (with_reducible rfl)
            try simp only [Act.put, List.getElem_toArray, List.getElem_cons_succ, List.getElem_cons_zero, List.setIfInBounds_toArray, List.set_cons_zero, List.set_cons_succ]
            refine wpAnyH_done (by kernel_rfl) ?_ _
            replace HO := Lib.hid (HO.out.below hHeld)
            clear hHeld HPi HIi
            go_wp2_with (at_builtin; refine app_ints rfl _ _ rfl rfl (HO.out.alloc _) rfl (L := [(i : Int)]) rfl (intRow_new _ _ _) (fun h => by cases h) ?x11 ?_)
            case x11 => first | (simp; done) | (simp; omega)
            intro vHO1 wHO1 hHO1
            have HO1 := Lib.hid hHO1
            clear hHO1 HO
            have e1 : ((k : Int) ≤ (l.length : Int)) = True := eq_true (by omega)
            have e2 : ((k : Int) ≤ (cp3 : Int)) = True := eq_true (by omega)
            have e4 : (cp3 = k) = False := eq_false (by omega)
            go_wp2_with (at_builtin; refine app_ints rfl _ _ rfl rfl HO1.out rfl (L := l.drop k) ?e12 ?r12 ?n12 ?x12 ?_)
            case e12 => simp
            case r12 => exact (HI3.out.below HO1.out.hb).drop k (fun g o h _ => by cases h; rfl)
            case n12 => first | exact fun h => by cases h | exact fun _ => rfl | exact fun _ => by simp
            case x12 => first | (simp; done) | (simp; omega)
            intro vHO2 wHO2 hHO2
            have HO2 := Lib.hid hHO2
            clear hHO2 HO1
            obtain ⟨m1, m2, m3, m4⟩ := wnum (i := i) (by omega)
            go_wp2_with fail
            clear m1 m2 m3 m4
            exact ⟨⟨i + 1, _, by rw [Int.natCast_add]; rfl, hi, ordTo_step HORD.out HK.out (fun _ => HLT.out) (by simp), HO2.out.base HBW.out⟩, by simp only [intOf]; omega⟩
          | false =>
            have HLS := Lib.hid hls
            have HLT : Hid (ltI p (i : Int) (j : Int) = false) := by
              unfold Hid ltI
              rw [pg_cast, pg_cast]
              exact hls
            clear hls hEj hat
            go_wp2_with fail
            refine wp_region_held_drew (S := fun V => Below wr.heap.size wr V) (by kernel_rfl) ?_ (fun hHeld => ?_)
            · exact bel_drew wr
            revert hHeld
            generalize World.drew _ = W1
            intro hHeld 
            refine wpAnyH_take (i := 0) (v := ?_) rfl (by kernel_rfl) (by kernel_rfl) (by kernel_rfl) (fun _ _ _ h => h) (Or.inl ⟨by rfl, ?_⟩) (by assumption) ?_
            rotate_left
            · intro Wq hSw
              clear hSw
              go_simp
              all_goals (with_reducible rfl)
            try simp only [Act.put, List.getElem_toArray, List.getElem_cons_zero, List.setIfInBounds_toArray, List.set_cons_zero, List.set_cons_succ]
            refine wpAnyH_take (i := 1) (v := ?_) rfl (by kernel_rfl) (by kernel_rfl) (by kernel_rfl) (fun _ _ _ h => h) (Or.inl ⟨by rfl, ?_⟩) (by assumption) ?_
            rotate_left
            · intro Wq hSw
              clear hSw
              go_simp
              all_goals (with_reducible rfl)
            try simp only [Act.put, List.getElem_toArray, List.getElem_cons_succ, List.getElem_cons_zero, List.setIfInBounds_toArray, List.set_cons_zero, List.set_cons_succ]
            refine wpAnyH_take (i := 2) (v := ?_) rfl (by kernel_rfl) (by kernel_rfl) (by kernel_rfl) (fun _ _ _ h => h) (Or.inl ⟨by rfl, ?_⟩) (by assumption) ?_
            rotate_left
            · intro Wq hSw
              clear hSw
              go_simp
              all_goals (with_reducible rfl)
            try simp only [Act.put, List.getElem_toArray, List.getElem_cons_succ, List.getElem_cons_zero, List.setIfInBounds_toArray, List.set_cons_zero, List.set_cons_succ]
            refine wpAnyH_take (i := 3) (v := ?_) rfl (by kernel_rfl) (by kernel_rfl) (by kernel_rfl) (fun _ _ _ h => h) (Or.inl ⟨by rfl, ?_⟩) (by assumption) ?_
            rotate_left
            · intro Wq hSw
              have b1 : ((k : Int) < (l.length : Int)) = True := eq_true (by omega)
              have d1 : (k < l.length) = True := eq_true (by omega)
              have c1 : ((0 : Int) ≤ (k : Int)) = True := eq_true (by omega)
              clear hSw
              go_simp
              all_goals (with_reducible rfl)
            try simp only [Act.put, List.getElem_toArray, List.getElem_cons_succ, List.getElem_cons_zero, List.setIfInBounds_toArray, List.set_cons_zero, List.set_cons_succ]
            refine wpAnyH_take (i := 4) (v := ?_) rfl (by kernel_rfl) (by kernel_rfl) (by kernel_rfl) (fun _ _ _ h => h) (Or.inl ⟨by rfl, ?_⟩) (by assumption) ?_
            rotate_left
            · intro Wq hSw
              clear hSw
              go_simp
              all_goals (with_reducible rfl)
            try simp only [Act.put, List.getElem_toArray, List.getElem_cons_succ, List.getElem_cons_zero, List.setIfInBounds_toArray, List.set_cons_zero, List.set_cons_succ]
            refine wpAnyH_take (i := 5) (v := ?_) rfl (by kernel_rfl) (by kernel_rfl) (by kernel_rfl) (fun _ _ _ h => h) (Or.inl ⟨by rfl, ?_⟩) (by assumption) ?_
            rotate_left
            · intro Wq hSw
              clear hSw
              go_simp
              all_goals (with_reducible rfl)
            try simp only [Act.put, List.getElem_toArray, List.getElem_cons_succ, List.getElem_cons_zero, List.setIfInBounds_toArray, List.set_cons_zero, List.set_cons_succ]
            refine wpAnyH_take (i := 6) (v := ?_) rfl (by kernel_rfl) (by kernel_rfl) (by kernel_rfl) (fun _ _ _ h => h) (Or.inl ⟨by rfl, ?_⟩) (by assumption) ?_
            rotate_left
            · intro Wq hSw
              clear hSw
              go_simp
              all_goals (with_reducible rfl)
            try simp only [Act.put, List.getElem_toArray, List.getElem_cons_succ, List.getElem_cons_zero, List.setIfInBounds_toArray, List.set_cons_zero, List.set_cons_succ]
            refine wpAnyH_take (i := 7) (v := ?_) rfl (by kernel_rfl) (by kernel_rfl) (by kernel_rfl) (fun _ _ _ h => h) (Or.inl ⟨by rfl, ?_⟩) (by assumption) ?_
            rotate_left
            · intro Wq hSw
              have b1 : ((i : Int) < (p.length : Int)) = True := eq_true (by omega)
              have d1 : (i < p.length) = True := eq_true (by omega)
              have c1 : ((0 : Int) ≤ (i : Int)) = True := eq_true (by omega)
              clear hSw
              go_simp
              all_goals (with_reducible rfl)
            try simp only [Act.put, List.getElem_toArray, List.getElem_cons_succ, List.getElem_cons_zero, List.setIfInBounds_toArray, List.set_cons_zero, List.set_cons_succ]
            refine wpAnyH_take (i := 8) (v := ?_) rfl (by kernel_rfl) (by kernel_rfl) (by kernel_rfl) (fun _ _ _ h => h) (Or.inl ⟨by rfl, ?_⟩) (by assumption) ?_
            rotate_left
            · intro Wq hSw
              obtain ⟨k0, k1⟩ := ptRow_at (HPi.out.below hSw) (i := i) hi (t := pget p i) rfl
              clear hSw
              go_simp
              all_goals (with_reducible rfl)
            try simp only [Act.put, List.getElem_toArray, List.getElem_cons_succ, List.getElem_cons_zero, List.setIfInBounds_toArray, List.set_cons_zero, List.set_cons_succ]
            refine wpAnyH_take (i := 9) (v := ?_) rfl (by kernel_rfl) (by kernel_rfl) (by kernel_rfl) (fun _ _ _ h => h) (Or.inl ⟨by rfl, ?_⟩) (by assumption) ?_
            rotate_left
            · intro Wq hSw
              clear hSw
              go_simp
              all_goals (with_reducible rfl)
            try simp only [Act.put, List.getElem_toArray, List.getElem_cons_succ, List.getElem_cons_zero, List.setIfInBounds_toArray, List.set_cons_zero, List.set_cons_succ]
            refine wpAnyH_take (i := 10) (v := ?_) rfl (by kernel_rfl) (by kernel_rfl) (by kernel_rfl) (fun _ _ _ h => h) (Or.inl ⟨by rfl, ?_⟩) (by assumption) ?_
            rotate_left
            · intro Wq hSw
              clear hSw
              go_simp
              all_goals (with_reducible rfl)
            try simp only [Act.put, List.getElem_toArray, List.getElem_cons_succ, List.getElem_cons_zero, List.setIfInBounds_toArray, List.set_cons_zero, List.set_cons_succ]
            refine wpAnyH_take (i := 11) (v := ?_) rfl (by kernel_rfl) (by kernel_rfl) (by kernel_rfl) (fun _ _ _ h => h) (Or.inl ⟨by rfl, ?_⟩) (by assumption) ?_
            rotate_left
            · intro Wq hSw
              clear hSw
              go_simp
              all_goals (with_reducible rfl)
            try simp only [Act.put, List.getElem_toArray, List.getElem_cons_succ, List.getElem_cons_zero, List.setIfInBounds_toArray, List.set_cons_zero, List.set_cons_succ]
            refine wpAnyH_take (i := 12) (v := ?_) rfl (by kernel_rfl) (by kernel_rfl) (by kernel_rfl) (fun _ _ _ h => h) (Or.inl ⟨by rfl, ?_⟩) (by assumption) ?_
            rotate_left
            · intro Wq hSw
              have b1 : ((k : Int) < (l.length : Int)) = True := eq_true (by omega)
              have d1 : (k < l.length) = True := eq_true (by omega)
              have c1 : ((0 : Int) ≤ (k : Int)) = True := eq_true (by omega)
              clear hSw
              go_simp
              all_goals (with_reducible rfl)
            try simp only [Act.put, List.getElem_toArray, List.getElem_cons_succ, List.getElem_cons_zero, List.setIfInBounds_toArray, List.set_cons_zero, List.set_cons_succ]
            refine wpAnyH_take (i := 13) (v := ?_) rfl (by kernel_rfl) (by kernel_rfl) (by kernel_rfl) (fun _ _ _ h => h) (Or.inl ⟨by rfl, ?_⟩) (by assumption) ?_
            rotate_left
            · intro Wq hSw
              have k0 := intRow_at (HIi.out.below hSw) hk HE.out
              clear hSw
              go_simp
              all_goals (with_reducible rfl)
            try simp only [Act.put, List.getElem_toArray, List.getElem_cons_succ, List.getElem_cons_zero, List.setIfInBounds_toArray, List.set_cons_zero, List.set_cons_succ]
            refine wpAnyH_take (i := 14) (v := ?_) rfl (by kernel_rfl) (by kernel_rfl) (by kernel_rfl) (fun _ _ _ h => h) (Or.inl ⟨by rfl, ?_⟩) (by assumption) ?_
            rotate_left
            · intro Wq hSw
              have b1 : ((j : Int) < (p.length : Int)) = True := eq_true (by omega)
              have d1 : (j < p.length) = True := eq_true (by omega)
              have c1 : ((0 : Int) ≤ (j : Int)) = True := eq_true (by omega)
              clear hSw
              go_simp
              all_goals (with_reducible rfl)
            try simp only [Act.put, List.getElem_toArray, List.getElem_cons_succ, List.getElem_cons_zero, List.setIfInBounds_toArray, List.set_cons_zero, List.set_cons_succ]
            refine wpAnyH_take (i := 15) (v := ?_) rfl (by kernel_rfl) (by kernel_rfl) (by kernel_rfl) (fun _ _ _ h => h) (Or.inl ⟨by rfl, ?_⟩) (by assumption) ?_
            rotate_left
            · intro Wq hSw
              obtain ⟨k0, k1⟩ := ptRow_at (HPi.out.below hSw) (i := j) hj (t := pget p j) rfl
              clear hSw
              go_simp
              all_goals (with_reducible rfl)
            try simp only [Act.put, List.getElem_toArray, List.getElem_cons_succ, List.getElem_cons_zero, List.setIfInBounds_toArray, List.set_cons_zero, List.set_cons_succ]
            refine r1 (i := 16) rfl (fun K hK => ?_)
            go_simp
            (with_reducible refine (refLess_l (pget p i) (pget p j) _).mono ?_)
            rintro e w1 ⟨rfl, hb1⟩
            rw [HLS.out]
            go_wp2_with fail
            refine hK.out _ _ (bl_trans hHeld hb1) (fun hHeld2 => ?_)
            clear hK K hHeld
            have hHeld := hHeld2
            clear hHeld2
            try simp only [Act.put, List.getElem_toArray, List.getElem_cons_succ, List.getElem_cons_zero, List.setIfInBounds_toArray, List.set_cons_zero, List.set_cons_succ]
            refine wpAnyH_take (i := 17) (v := ?_) rfl (by kernel_rfl) (by kernel_rfl) (by kernel_rfl) (fun _ _ _ h => h) (Or.inl ⟨by rfl, ?_⟩) (by assumption) ?_
            rotate_left
            · intro Wq hSw
              clear hSw
              go_simp
              all_goals (with_reducible rfl)
            try simp only [Act.put, List.getElem_toArray, List.getElem_cons_succ, List.getElem_cons_zero, List.setIfInBounds_toArray, List.set_cons_zero, List.set_cons_succ]
            refine wpAnyH_take (i := 18) (v := ?_) rfl (by kernel_rfl) (by kernel_rfl) (by kernel_rfl) (fun _ _ _ h => h) (Or.inl ⟨by rfl, ?_⟩) (by assumption) ?_
            rotate_left
            · intro Wq hSw
              clear hSw
              go_simp
              all_goals (with_reducible rfl)
            try simp only [Act.put, List.getElem_toArray, List.getElem_cons_succ, List.getElem_cons_zero, List.setIfInBounds_toArray, List.set_cons_zero, List.set_cons_succ]
            refine wpAnyH_done (by kernel_rfl) ?_ _
            replace HO := Lib.hid (HO.out.below hHeld)
            clear hHeld HPi HIi
            have k0 := intRow_at (HI3.out.below HO.out.hb) hk HE.out
            have b1 : ((k : Int) < (l.length : Int)) = True := eq_true (by omega)
            have c1 : ((0 : Int) ≤ (k : Int)) = True := eq_true (by omega)
            have d1 : (k < l.length) = True := eq_true (by omega)
            go_wp2_with (at_builtin; refine app_ints rfl _ _ rfl rfl (HO.out.alloc _) rfl (L := [(j : Int)]) rfl (intRow_new _ _ _) (fun h => by cases h) ?x1 ?_)
            case x1 => simp; omega
            intro v2 w2 hO2
            have HO2 := Lib.hid hO2
            clear hO2 k0 HO
            have HKK : Hid (∀ m (h : m < l.length), m < k + 1 → ltI p i l[m] = false) := by
              intro m h h'
              rcases Nat.lt_or_ge m k with h2 | h2
              · exact HK.out m h h2
              · obtain rfl : m = k := by omega
                rw [HE.out]
                exact HLT.out
            obtain ⟨m1, m2, m3, m4⟩ := wnum (i := k) (by omega)
            go_wp2_with fail
            clear m1 m2 m3 m4
            exact ⟨⟨k + 1, by rw [Int.natCast_add]; rfl, hk, HKK.out, HO2.out.congr (by rw [List.take_succ_eq_append_getElem hk, HE.out])⟩, by simp only [intOf]; omega⟩
        · have ckk : ((0 : Int) ≤ (k : Int)) = True := eq_true (by omega)
          go_wp2_with fail
          refine wp_region_held_drew (S := fun V => Below wr.heap.size wr V) (by kernel_rfl) ?_ (fun hHeld => ?_)
          · exact bel_drew wr
          revert hHeld
          generalize World.drew _ = W1
          intro hHeld 
          refine wpAnyH_take (i := 0) (v := ?_) rfl (by kernel_rfl) (by kernel_rfl) (by kernel_rfl) (fun _ _ _ h => h) (Or.inl ⟨by rfl, ?_⟩) (by assumption) ?_
          rotate_left
          · intro Wq hSw
            clear hSw
            go_simp
            all_goals (with_reducible rfl)
          try simp only [Act.put, List.getElem_toArray, List.getElem_cons_zero, List.setIfInBounds_toArray, List.set_cons_zero, List.set_cons_succ]
          refine wpAnyH_take (i := 1) (v := ?_) rfl (by kernel_rfl) (by kernel_rfl) (by kernel_rfl) (fun _ _ _ h => h) (Or.inl ⟨by rfl, ?_⟩) (by assumption) ?_
          rotate_left
          · intro Wq hSw
            clear hSw
            go_simp
            all_goals (with_reducible rfl)
          try simp only [Act.put, List.getElem_toArray, List.getElem_cons_succ, List.getElem_cons_zero, List.setIfInBounds_toArray, List.set_cons_zero, List.set_cons_succ]
          refine wpAnyH_take (i := 2) (v := ?_) rfl (by kernel_rfl) (by kernel_rfl) (by kernel_rfl) (fun _ _ _ h => h) (Or.inl ⟨by rfl, ?_⟩) (by assumption) ?_
          rotate_left
          · intro Wq hSw
            clear hSw
            go_simp
            all_goals (with_reducible rfl)
          try simp only [Act.put, List.getElem_toArray, List.getElem_cons_succ, List.getElem_cons_zero, List.setIfInBounds_toArray, List.set_cons_zero, List.set_cons_succ]
          refine wpAnyH_take (i := 3) (v := ?_) rfl (by kernel_rfl) (by kernel_rfl) (by kernel_rfl) (fun _ _ _ h => h) (Or.inl ⟨by rfl, ?_⟩) (by assumption) ?_
          rotate_left
          · intro Wq hSw
            have b1 : ((k : Int) < (l.length : Int)) = False := eq_false (by omega)
            have d1 : (k < l.length) = False := eq_false (by omega)
            clear hSw
            go_simp
            all_goals (with_reducible rfl)
          try simp only [Act.put, List.getElem_toArray, List.getElem_cons_succ, List.getElem_cons_zero, List.setIfInBounds_toArray, List.set_cons_zero, List.set_cons_succ]
          refine wpAnyH_take (i := 4) (v := ?_) rfl (by kernel_rfl) (by kernel_rfl) (by kernel_rfl) (fun _ _ _ h => h) (Or.inl ⟨by rfl, ?_⟩) (by assumption) ?_
          rotate_left
          · intro Wq hSw
            clear hSw
            go_simp
            all_goals (with_reducible rfl)
          try simp only [Act.put, List.getElem_toArray, List.getElem_cons_succ, List.getElem_cons_zero, List.setIfInBounds_toArray, List.set_cons_zero, List.set_cons_succ]
          refine wpAnyH_take (i := 5) (v := _) rfl (by kernel_rfl) (by kernel_rfl) (by kernel_rfl) (fun _ _ _ h => h) (Or.inr ⟨by rfl, rfl⟩) (by assumption) ?_
          try simp only [Act.put, List.getElem_toArray, List.getElem_cons_succ, List.getElem_cons_zero, List.setIfInBounds_toArray, List.set_cons_zero, List.set_cons_succ]
          refine wpAnyH_take (i := 6) (v := _) rfl (by kernel_rfl) (by kernel_rfl) (by kernel_rfl) (fun _ _ _ h => h) (Or.inr ⟨by rfl, rfl⟩) (by assumption) ?_
          try simp only [Act.put, List.getElem_toArray, List.getElem_cons_succ, List.getElem_cons_zero, List.setIfInBounds_toArray, List.set_cons_zero, List.set_cons_succ]
          refine wpAnyH_take (i := 7) (v := _) rfl (by kernel_rfl) (by kernel_rfl) (by kernel_rfl) (fun _ _ _ h => h) (Or.inr ⟨by rfl, rfl⟩) (by assumption) ?_
          try simp only [Act.put, List.getElem_toArray, List.getElem_cons_succ, List.getElem_cons_zero, List.setIfInBounds_toArray, List.set_cons_zero, List.set_cons_succ]
          refine wpAnyH_take (i := 8) (v := _) rfl (by kernel_rfl) (by kernel_rfl) (by kernel_rfl) (fun _ _ _ h => h) (Or.inr ⟨by rfl, rfl⟩) (by assumption) ?_
          try simp only [Act.put, List.getElem_toArray, List.getElem_cons_succ, List.getElem_cons_zero, List.setIfInBounds_toArray, List.set_cons_zero, List.set_cons_succ]
          refine wpAnyH_take (i := 9) (v := _) rfl (by kernel_rfl) (by kernel_rfl) (by kernel_rfl) (fun _ _ _ h => h) (Or.inr ⟨by rfl, rfl⟩) (by assumption) ?_
          try simp only [Act.put, List.getElem_toArray, List.getElem_cons_succ, List.getElem_cons_zero, List.setIfInBounds_toArray, List.set_cons_zero, List.set_cons_succ]
          refine wpAnyH_take (i := 10) (v := _) rfl (by kernel_rfl) (by kernel_rfl) (by kernel_rfl) (fun _ _ _ h => h) (Or.inr ⟨by rfl, rfl⟩) (by assumption) ?_
          try simp only [Act.put, List.getElem_toArray, List.getElem_cons_succ, List.getElem_cons_zero, List.setIfInBounds_toArray, List.set_cons_zero, List.set_cons_succ]
          refine wpAnyH_take (i := 11) (v := _) rfl (by kernel_rfl) (by kernel_rfl) (by kernel_rfl) (fun _ _ _ h => h) (Or.inr ⟨by rfl, rfl⟩) (by assumption) ?_
          try simp only [Act.put, List.getElem_toArray, List.getElem_cons_succ, List.getElem_cons_zero, List.setIfInBounds_toArray, List.set_cons_zero, List.set_cons_succ]
          refine wpAnyH_take (i := 12) (v := _) rfl (by kernel_rfl) (by kernel_rfl) (by kernel_rfl) (fun _ _ _ h => h) (Or.inr ⟨by rfl, rfl⟩) (by assumption) ?_
          try simp only [Act.put, List.getElem_toArray, List.getElem_cons_succ, List.getElem_cons_zero, List.setIfInBounds_toArray, List.set_cons_zero, List.set_cons_succ]
          refine wpAnyH_take (i := 13) (v := _) rfl (by kernel_rfl) (by kernel_rfl) (by kernel_rfl) (fun _ _ _ h => h) (Or.inr ⟨by rfl, rfl⟩) (by assumption) ?_
          try simp only [Act.put, List.getElem_toArray, List.getElem_cons_succ, List.getElem_cons_zero, List.setIfInBounds_toArray, List.set_cons_zero, List.set_cons_succ]
          refine wpAnyH_take (i := 14) (v := _) rfl (by kernel_rfl) (by kernel_rfl) (by kernel_rfl) (fun _ _ _ h => h) (Or.inr ⟨by rfl, rfl⟩) (by assumption) ?_
          try simp only [Act.put, List.getElem_toArray, List.getElem_cons_succ, List.getElem_cons_zero, List.setIfInBounds_toArray, List.set_cons_zero, List.set_cons_succ]
          refine wpAnyH_take (i := 15) (v := _) rfl (by kernel_rfl) (by kernel_rfl) (by kernel_rfl) (fun _ _ _ h => h) (Or.inr ⟨by rfl, rfl⟩) (by assumption) ?_
          try simp only [Act.put, List.getElem_toArray, List.getElem_cons_succ, List.getElem_cons_zero, List.setIfInBounds_toArray, List.set_cons_zero, List.set_cons_succ]
          refine wpAnyH_take (i := 16) (v := _) rfl (by kernel_rfl) (by kernel_rfl) (by kernel_rfl) (fun _ _ _ h => h) (Or.inr ⟨by rfl, rfl⟩) (by assumption) ?_
          try simp only [Act.put, List.getElem_toArray, List.getElem_cons_succ, List.getElem_cons_zero, List.setIfInBounds_toArray, List.set_cons_zero, List.set_cons_succ]
          refine wpAnyH_take (i := 17) (v := _) rfl (by kernel_rfl) (by kernel_rfl) (by kernel_rfl) (fun _ _ _ h => h) (Or.inr ⟨by rfl, rfl⟩) (by assumption) ?_
          try simp only [Act.put, List.getElem_toArray, List.getElem_cons_succ, List.getElem_cons_zero, List.setIfInBounds_toArray, List.set_cons_zero, List.set_cons_succ]
          refine wpAnyH_take (i := 18) (v := ?_) rfl (by kernel_rfl) (by kernel_rfl) (by kernel_rfl) (fun _ _ _ h => h) (Or.inl ⟨by rfl, ?_⟩) (by assumption) ?_
          rotate_left
          · intro Wq hSw
            clear hSw
            go_simp
            all_goals (with_reducible rfl)
          try simp only [Act.put, List.getElem_toArray, List.getElem_cons_succ, List.getElem_cons_zero, List.setIfInBounds_toArray, List.set_cons_zero, List.set_cons_succ]
          refine wpAnyH_done (by kernel_rfl) ?_ _
          replace HO := Lib.hid (HO.out.below hHeld)
          clear hHeld HPi HIi
          obtain rfl : k = l.length := by omega
          go_wp2_with (at_builtin; refine app_ints rfl _ _ rfl rfl (HO.out.alloc _) rfl (L := [(i : Int)]) rfl (intRow_new _ _ _) (fun h => by cases h) ?x13 ?_)
          case x13 => first | (simp; done) | (simp; omega)
          intro vHO1 wHO1 hHO1
          have HO1 := Lib.hid hHO1
          clear hHO1 HO
          rcases ad3 with _ | aB
          · obtain rfl := HN3.out rfl
            obtain rfl : l = [] := List.length_eq_zero_iff.1 (by omega)
            simp only [List.length_nil] at *
            go_wp2_with (at_builtin; refine app_ints rfl _ _ rfl rfl HO1.out rfl (L := []) ?e14 ?r14 (fun _ => rfl) ?x14 ?_)
            case e14 => simp
            case r14 => exact intRow_nil _ _
            case x14 => first | (simp; done) | (simp; omega)
            intro vHO2 wHO2 hHO2
            have HO2 := Lib.hid hHO2
            clear hHO2 HO1
            obtain ⟨m1, m2, m3, m4⟩ := wnum (i := i) (by omega)
            go_wp2_with fail
            clear m1 m2 m3 m4
            exact ⟨⟨i + 1, _, by rw [Int.natCast_add]; rfl, hi, ordTo_step HORD.out HK.out (fun h => absurd h (Nat.lt_irrefl _)) (by simp), HO2.out.base HBW.out⟩, by simp only [intOf]; omega⟩
          · by_cases hcB : cp3 = l.length
            · have eB : (cp3 = l.length) = True := eq_true hcB
              have fB : ((l.length : Int) ≤ (cp3 : Int)) = True := eq_true (by omega)
              clear hcB
              go_wp2_with (at_builtin; refine app_ints rfl _ _ rfl rfl HO1.out rfl (L := []) ?e15 ?r15 ?n15 ?x15 ?_)
              case e15 => simp
              case r15 => exact intRow_nil _ _
              case n15 => first | exact fun h => by cases h | exact fun _ => rfl | exact fun _ => by simp
              case x15 => first | (simp; done) | (simp; omega)
              intro vHO2 wHO2 hHO2
              have HO2 := Lib.hid hHO2
              clear hHO2 HO1
              obtain ⟨m1, m2, m3, m4⟩ := wnum (i := i) (by omega)
              go_wp2_with fail
              clear m1 m2 m3 m4
              exact ⟨⟨i + 1, _, by rw [Int.natCast_add]; rfl, hi, ordTo_step HORD.out HK.out (fun h => absurd h (Nat.lt_irrefl _)) (by simp), HO2.out.base HBW.out⟩, by simp only [intOf]; omega⟩
            · have eB : (cp3 = l.length) = False := eq_false hcB
              have fB : ((l.length : Int) ≤ (cp3 : Int)) = True := eq_true (by omega)
              clear hcB
              go_wp2_with (at_builtin; refine app_ints rfl _ _ rfl rfl HO1.out rfl (L := []) ?e16 ?r16 ?n16 ?x16 ?_)
              case e16 => simp
              case r16 => exact intRow_nil _ _
              case n16 => first | exact fun h => by cases h | exact fun _ => rfl | exact fun _ => by simp
              case x16 => first | (simp; done) | (simp; omega)
              intro vHO2 wHO2 hHO2
              have HO2 := Lib.hid hHO2
              clear hHO2 HO1
              obtain ⟨m1, m2, m3, m4⟩ := wnum (i := i) (by omega)
              go_wp2_with fail
              clear m1 m2 m3 m4
              exact ⟨⟨i + 1, _, by rw [Int.natCast_add]; rfl, hi, ordTo_step HORD.out HK.out (fun h => absurd h (Nat.lt_irrefl _)) (by simp), HO2.out.base HBW.out⟩, by simp only [intOf]; omega⟩
    · obtain rfl : i = p.length := by omega
      have b0 : ((p.length : Int) < (p.length : Int)) = False := eq_false (by omega)
      go_wp2_with fail
      go_ret
      rw [ordered_only (ordered_msort p) ⟨HORD.out.1, HORD.out.2⟩]
      exact ⟨_, rfl, HO3.out⟩
end Go.Proofs.Ytmkegehkifpkjaa
