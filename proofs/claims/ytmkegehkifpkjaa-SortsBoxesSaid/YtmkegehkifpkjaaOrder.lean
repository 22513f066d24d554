/-
  Contracts of sorts.Order and of the function value that it asks.
-/
import Derived.Test.YtmkegehkifpkjaaSortI
namespace Go.Proofs.Ytmkegehkifpkjaa
open Go.RowKit

set_option maxHeartbeats 8000000 in
set_option maxRecDepth 100000 in
theorem askOrder (p : List Pt) (ad : Option Addr) (cap b : Nat) (W0 : World) (hc : W0.cell? ⟨b, 0, none⟩ = some (.slice ad p.length cap)) (hP : PtRow W0 ad p) : AsksI 31 #[.pointer (some ⟨b, 0, none⟩)] (ltI p) (fun i => 0 ≤ i ∧ i < p.length) W0 := by
  rintro x y W ⟨hx0, hx⟩ ⟨hy0, hy⟩ hW
  obtain ⟨i, rfl⟩ := Int.eq_ofNat_of_zero_le hx0
  obtain ⟨k, rfl⟩ := Int.eq_ofNat_of_zero_le hy0
  have hi : i < p.length := by omega
  have hk : k < p.length := by omega
  obtain ⟨g, o, rfl⟩ := hP.some (by omega)
  have HC := Lib.hid ((hW.cell (cell_lt hc)).trans hc)
  have HP := Lib.hid (hP.below hW)
  have HL := Lib.hid (show ltI p (i : Int) (k : Int) = lessP (pget p i) (pget p k) from rfl)
  clear hc hP hW hx0 hx hy0 hy
  generalize ltI p (i : Int) (k : Int) = r at *
  have c1 : ((0 : Int) ≤ (i : Int)) = True := eq_true (by omega)
  have c2 : ((0 : Int) ≤ (k : Int)) = True := eq_true (by omega)
  go_enter Try.func31, Try.ntmps31
  go_wp2_with fail
  refine wp_region_held_drew (S := fun V => Below W.heap.size W V) (by kernel_rfl) ?_ (fun hHeld => ?_)
  · exact bel_drew W
  revert hHeld
  generalize World.drew _ = W1
  intro hHeld 
  refine wpAnyH_take (i := 0) (v := ?_) rfl (by kernel_rfl) (by kernel_rfl) (by kernel_rfl) (fun _ _ _ h => h) (Or.inl ⟨by rfl, ?_⟩) (by assumption) ?_
  rotate_left
  · intro Wq hSw
    have k0 := (hSw.cell (cell_lt HC.out)).trans HC.out
    clear hSw
    go_simp
    all_goals (with_reducible rfl)
  try simp only [Act.put, List.getElem_toArray, List.getElem_cons_zero, List.setIfInBounds_toArray, List.set_cons_zero, List.set_cons_succ]
  refine wpAnyH_take (i := 1) (v := ?_) rfl (by kernel_rfl) (by kernel_rfl) (by kernel_rfl) (fun _ _ _ h => h) (Or.inl ⟨by rfl, ?_⟩) (by assumption) ?_
  rotate_left
  · intro Wq hSw
    clear hSw
    go_simp
    all_goals (with_reducible rfl)
  try simp only [Act.put, List.getElem_toArray, List.getElem_cons_succ, List.getElem_cons_zero, List.setIfInBounds_toArray, List.set_cons_zero, List.set_cons_succ]
  refine wpAnyH_take (i := 2) (v := ?_) rfl (by kernel_rfl) (by kernel_rfl) (by kernel_rfl) (fun _ _ _ h => h) (Or.inl ⟨by rfl, ?_⟩) (by assumption) ?_
  rotate_left
  · intro Wq hSw
    have b1 : ((i : Int) < (p.length : Int)) = True := eq_true (by omega)
    clear hSw
    go_simp
    all_goals (with_reducible rfl)
  try simp only [Act.put, List.getElem_toArray, List.getElem_cons_succ, List.getElem_cons_zero, List.setIfInBounds_toArray, List.set_cons_zero, List.set_cons_succ]
  refine wpAnyH_take (i := 3) (v := ?_) rfl (by kernel_rfl) (by kernel_rfl) (by kernel_rfl) (fun _ _ _ h => h) (Or.inl ⟨by rfl, ?_⟩) (by assumption) ?_
  rotate_left
  · intro Wq hSw
    obtain ⟨k0, k1⟩ := ptRow_at (HP.out.below hSw) hi (t := pget p i) rfl
    clear hSw
    go_simp
    all_goals (with_reducible rfl)
  try simp only [Act.put, List.getElem_toArray, List.getElem_cons_succ, List.getElem_cons_zero, List.setIfInBounds_toArray, List.set_cons_zero, List.set_cons_succ]
  refine wpAnyH_take (i := 4) (v := ?_) rfl (by kernel_rfl) (by kernel_rfl) (by kernel_rfl) (fun _ _ _ h => h) (Or.inl ⟨by rfl, ?_⟩) (by assumption) ?_
  rotate_left
  · intro Wq hSw
    have k0 := (hSw.cell (cell_lt HC.out)).trans HC.out
    clear hSw
    go_simp
    all_goals (with_reducible rfl)
  try simp only [Act.put, List.getElem_toArray, List.getElem_cons_succ, List.getElem_cons_zero, List.setIfInBounds_toArray, List.set_cons_zero, List.set_cons_succ]
  refine wpAnyH_take (i := 5) (v := ?_) rfl (by kernel_rfl) (by kernel_rfl) (by kernel_rfl) (fun _ _ _ h => h) (Or.inl ⟨by rfl, ?_⟩) (by assumption) ?_
  rotate_left
  · intro Wq hSw
    clear hSw
    go_simp
    all_goals (with_reducible rfl)
  try simp only [Act.put, List.getElem_toArray, List.getElem_cons_succ, List.getElem_cons_zero, List.setIfInBounds_toArray, List.set_cons_zero, List.set_cons_succ]
  refine wpAnyH_take (i := 6) (v := ?_) rfl (by kernel_rfl) (by kernel_rfl) (by kernel_rfl) (fun _ _ _ h => h) (Or.inl ⟨by rfl, ?_⟩) (by assumption) ?_
  rotate_left
  · intro Wq hSw
    have b1 : ((k : Int) < (p.length : Int)) = True := eq_true (by omega)
    clear hSw
    go_simp
    all_goals (with_reducible rfl)
  try simp only [Act.put, List.getElem_toArray, List.getElem_cons_succ, List.getElem_cons_zero, List.setIfInBounds_toArray, List.set_cons_zero, List.set_cons_succ]
  refine wpAnyH_take (i := 7) (v := ?_) rfl (by kernel_rfl) (by kernel_rfl) (by kernel_rfl) (fun _ _ _ h => h) (Or.inl ⟨by rfl, ?_⟩) (by assumption) ?_
  rotate_left
  · intro Wq hSw
    obtain ⟨k0, k1⟩ := ptRow_at (HP.out.below hSw) hk (t := pget p k) rfl
    clear hSw
    go_simp
    all_goals (with_reducible rfl)
  try simp only [Act.put, List.getElem_toArray, List.getElem_cons_succ, List.getElem_cons_zero, List.setIfInBounds_toArray, List.set_cons_zero, List.set_cons_succ]
  refine r1 (i := 8) rfl (fun K hK => ?_)
  go_simp
  (with_reducible refine (less_l (pget p i) (pget p k) _).mono ?_)
  rintro e w1 ⟨rfl, hb1⟩
  go_wp2_with fail
  refine hK.out _ _ (bl_trans hHeld hb1) (fun hHeld2 => ?_)
  clear hK K hHeld
  have hHeld := hHeld2
  clear hHeld2
  try simp only [Act.put, List.getElem_toArray, List.getElem_cons_succ, List.getElem_cons_zero, List.setIfInBounds_toArray, List.set_cons_zero, List.set_cons_succ]
  refine wpAnyH_take (i := 9) (v := ?_) rfl (by kernel_rfl) (by kernel_rfl) (by kernel_rfl) (fun _ _ _ h => h) (Or.inl ⟨by rfl, ?_⟩) (by assumption) ?_
  rotate_left
  · intro Wq hSw
    clear hSw
    go_simp
    all_goals (with_reducible rfl)
  try simp only [Act.put, List.getElem_toArray, List.getElem_cons_succ, List.getElem_cons_zero, List.setIfInBounds_toArray, List.set_cons_zero, List.set_cons_succ]
  refine wpAnyH_done (by kernel_rfl) ?_ _
  go_wp2_with fail
  go_ret
  rw [HL.out]
  exact ⟨rfl, hHeld⟩
set_option maxHeartbeats 8000000 in
set_option maxRecDepth 100000 in
theorem order_l (p : List Pt) (ad : Option Addr) (cap : Nat) (w : World) (hP : PtRow w ad p) (_ : p.length ≤ cap) (hlen : p.length ≤ 10000) :
    Calls Try.prog 11 #[.slice ad p.length cap] w fun e w' => ∃ v, e = .returned v ∧ Oi w v (msort (ltI p) (idx p.length)) w' := by
  obtain ⟨e0, hi0, hz0, hz1, hz2⟩ := info_parts info_int
  have HP := Lib.hid hP
  clear hP
  go_enter Try.func11, Try.ntmps11
  go_wp2_with (at_make; refine wpList_make_full _ rfl _ _ 24 rfl (w.heap.size + 1) 3 e0 (.int .i64 0) 1 Try.underlying24 hi0 hz0 hz1 _ _ _ _ p.length rfl rfl rfl rfl ?b2 ?b3 (by simp) ?_)
  case b2 => rw [hz2]; omega
  case b3 => unfold maxLen; omega
  intro w0 hown0 hgrow0
  have HB1 := Lib.hid (bl_one w (.cells #[.slice ad p.length cap] 22))
  have HC1 := Lib.hid (show (w.alloc (.cells #[.slice ad p.length cap] 22)).cell? ⟨w.heap.size, 0, none⟩ = some (.slice ad p.length cap) from by simp [go_sem])
  have HO0 := Lib.hid (oi_made (b := w.heap.size + 1) (by simp) hown0 hgrow0)
  clear hown0 hgrow0
  generalize w.alloc (.cells #[.slice ad p.length cap] 22) = W1 at *
  generalize w.heap.size + 1 = g1 at *
  go_wp2_with fail
  go_loopw [10] (fun iv W => ∃ k : Nat, k ≤ p.length ∧ iv = .int .i64 k ∧ Oi W1 (.slice (some ⟨g1, 0, none⟩) p.length p.length) (idx k ++ List.replicate (p.length - k) 0) W) (fun iv _ => p.length - (intOf iv).toNat)
  case atStart => exact ⟨0, Nat.zero_le _, rfl, HO0.out⟩
  case round =>
    obtain ⟨k, hk, rfl, hO⟩ := hrel
    have HO := Lib.hid hO
    clear hO HO0
    by_cases hlt : k < p.length
    · have b1 : ((k : Int) < (p.length : Int)) = True := eq_true (by omega)
      have c1 : ((0 : Int) ≤ (k : Int)) = True := eq_true (by omega)
      have f1 := HO.out.frozen (by simp [idx_len]; omega) k
      have k1 := HO.out.cell (by simp [idx_len]; omega) (j := k) (by simp [idx_len]; omega)
      have HO2 := Lib.hid (HO.out.store (by simp [idx_len]; omega) k (k : Int))
      rw [idx_set hlt] at HO2
      obtain ⟨m1, m2, m3, m4⟩ := wnum (i := k) (by omega)
      go_wp2_with fail
      exact ⟨⟨k + 1, hlt, by rw [Int.natCast_add]; rfl, HO2.out⟩, by simp [intOf]; omega⟩
    · obtain rfl : k = p.length := by omega
      have b1 : ((p.length : Int) < (p.length : Int)) = False := eq_false (by omega)
      rw [Nat.sub_self, List.replicate_zero, List.append_nil] at HO
      obtain ⟨ad', cp', e', -, hr, -⟩ := HO.out.ints
      simp only [Value.slice.injEq, idx_len] at e'
      obtain ⟨rfl, -, rfl⟩ := e'
      have HBw := Lib.hid (bl_trans HB1.out HO.out.hb)
      have HA := Lib.hid (askOrder p ad cap w.heap.size wr ((HO.out.hb.cell (cell_lt HC1.out)).trans HC1.out) (HP.out.below HBw.out))
      have HS := Lib.hid (sortI_l 31 #[.pointer (some ⟨w.heap.size, 0, none⟩)] (ltI p) (fun i => 0 ≤ i ∧ i < p.length) (fun _ _ => rfl) (idx p.length) (some ⟨g1, 0, none⟩) p.length wr p.length HA.out (fun x hx => idx_mem.1 hx) hr (idx_len _).symm (by rw [idx_len]; exact Nat.le_refl _) (fun h => by cases h) (by rw [idx_len]; omega))
      clear hr HA
      go_wp2_with fail
      (with_reducible refine HS.out.mono ?_); rintro e w3 ⟨v3, rfl, hO3⟩
      have HO3 := Lib.hid (hO3.base HBw.out)
      clear hO3
      go_wp2_with fail
      go_ret
      exact ⟨_, rfl, HO3.out⟩
end Go.Proofs.Ytmkegehkifpkjaa
