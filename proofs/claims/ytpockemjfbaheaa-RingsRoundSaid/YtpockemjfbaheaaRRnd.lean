/-
  The law RingsRound.
-/
import Derived.Test.YtpockemjfbaheaaRKnown
import Derived.Test.YtpockemjfbaheaaROrd
import Derived.Test.YtpockemjfbaheaaRAreas
import Derived.Test.YtpockemjfbaheaaRRndMath
namespace Go.Proofs.Ytpockemjfbaheaa
open Go.RowKit

/-- bytes of a row, in memory -/
def ByteRow (W : World) (ad : Option Addr) (B : List Int) : Prop := ∀ i (h : i < B.length), ∃ g o, ad = some ⟨g, o, none⟩ ∧ W.cell? ⟨g, o + i, none⟩ = some (.int .u8 B[i])
theorem ByteRow.below {W W' : World} {ad : Option Addr} {B : List Int} (h : ByteRow W ad B) (hb : Below W.heap.size W W') : ByteRow W' ad B := by
  intro i hi
  obtain ⟨g, o, e, h1⟩ := h i hi
  exact ⟨g, o, e, (hb.cell (cell_lt h1)).trans h1⟩
set_option maxHeartbeats 8000000 in
set_option maxRecDepth 100000 in
theorem round_l (w : World) (B : List Int) (ab : Option Addr) (cb : Nat) (hB : ByteRow w ab B) (hb : ∀ b ∈ B, 0 ≤ b ∧ b < 256) (cut : Int) :
    Calls Try.prog 7 #[.slice ab B.length cb, .int .i64 cut] w (Gives (.bool true) w) := by
  have KN := Lib.hid (fun W => known_l W)
  have HBR0 := Lib.hid hB
  have HBB := Lib.hid hb
  clear hB hb
  go_enter Try.func7, Try.ntmps7
  go_wp2_with fail
  go_loopw [5, 6] (fun v iv W => ∃ (i : Nat) (L : List Int), i ≤ B.length ∧ i ≤ 60 ∧ iv = .int .i64 i ∧ L.length ≤ i ∧ L.Nodup ∧ (∀ x ∈ L, 0 ≤ x ∧ x < 256) ∧ Oi w v L W) (fun _ iv _ => 60 - (intOf iv).toNat)
  case atStart => exact ⟨0, [], Nat.zero_le _, Nat.zero_le _, rfl, Nat.zero_le _, List.nodup_nil, fun x h => absurd h (by simp), oi_nil w⟩
  case round =>
    obtain ⟨i, L, hi, hi60, rfl, hLi, hnd, hin, hO⟩ := hrel
    have HO0 := Lib.hid hO
    have HND := Lib.hid hnd
    have HIN := Lib.hid hin
    obtain ⟨aL, cL, rfl, hcL, -, hnL⟩ := hO.slice
    clear hO hnd hin
    by_cases hlt : i < B.length ∧ i < 60
    · have hiB : i < B.length := hlt.1
      have h60 : i < 60 := hlt.2
      have q1 : ((i : Int) < (B.length : Int)) = True := eq_true (by omega)
      have q1' : (i < B.length) = True := eq_true hiB
      have q2 : ((i : Int) < 60) = True := eq_true (by omega)
      have q2' : (i < 60) = True := eq_true hlt.2
      have hbi := HBB.out _ (List.getElem_mem hiB)
      obtain ⟨y, hy⟩ := Int.eq_ofNat_of_zero_le hbi.1
      have HBI := Lib.hid hy
      have hy2 : y < 256 := by omega
      obtain ⟨gB0, oB0, eab, -⟩ := HBR0.out i hiB
      subst eab
      clear hbi hy hlt
      go_wp2_with fail
      go_loopw [7, 8] (fun bv kv W => ∃ k : Nat, k ≤ L.length ∧ kv = .int .i64 k ∧ bv = .bool ((L.take k).contains (y : Int)) ∧ Oi w (.slice aL L.length cL) L W) (fun _ kv _ => L.length - (intOf kv).toNat)
      case atStart => exact ⟨0, Nat.zero_le _, rfl, by simp, HO0.out⟩
      case round =>
        obtain ⟨k, hk, rfl, rfl, hO⟩ := hrel
        clear HO0
        have HO := Lib.hid hO
        have HI : Hid (IntRow wr aL L) := by
          obtain ⟨a, c, e, -, h, -⟩ := hO.slice
          cases e
          exact h
        have HBR := Lib.hid (HBR0.out.below hO.hb)
        clear hO
        by_cases hkl : k < L.length
        · have q3 : ((k : Int) < (L.length : Int)) = True := eq_true (by omega)
          have q4 : (k < L.length) = True := eq_true hkl
          obtain ⟨gL, oL, rfl⟩ := HI.out.some (by omega)
          obtain ⟨x, hx⟩ : ∃ x, L[k] = x := ⟨_, rfl⟩
          have HXK := Lib.hid hx
          have HTK : Hid ((L.take (k + 1)).contains (y : Int) = ((L.take k).contains (y : Int) || (x == (y : Int)))) := by
            rw [List.take_succ_eq_append_getElem hkl, hx]
            by_cases h1 : x = (y : Int)
            · subst h1
              simp [Hid]
            · have h2 : ¬ (y : Int) = x := fun e => h1 e.symm
              simp [Hid, h1, h2]
          clear hx
          generalize (L.take k).contains (y : Int) = bb at *
          cases bb
          · rw [Bool.false_or] at HTK
            go_wp2_with fail
            refine wp_region_held_drew (S := fun V => Below wr.heap.size wr V) (by kernel_rfl) ?_ (fun hHeld => ?_)
            · exact bel_drew wr
            revert hHeld
            generalize World.drew _ = W1
            intro hHeld 
            refine wpAnyH_take (i := 0) (v := ?_) rfl (by kernel_rfl) (by kernel_rfl) (by kernel_rfl) (fun _ _ _ h => h) (Or.inl ⟨by rfl, ?_⟩) (by assumption) ?_
            rotate_left
            · intro Wq hSw
              clear hSw
              go_simp
              all_goals (with_reducible rfl)
            try simp only [Act.put, List.getElem_toArray, List.getElem_cons_zero, List.setIfInBounds_toArray, List.set_cons_zero, List.set_cons_succ]
            refine wpAnyH_take (i := 1) (v := ?_) rfl (by kernel_rfl) (by kernel_rfl) (by kernel_rfl) (fun _ _ _ h => h) (Or.inl ⟨by rfl, ?_⟩) (by assumption) ?_
            rotate_left
            · intro Wq hSw
              clear hSw
              go_simp
              all_goals (with_reducible rfl)
            try simp only [Act.put, List.getElem_toArray, List.getElem_cons_succ, List.getElem_cons_zero, List.setIfInBounds_toArray, List.set_cons_zero, List.set_cons_succ]
            refine wpAnyH_take (i := 2) (v := ?_) rfl (by kernel_rfl) (by kernel_rfl) (by kernel_rfl) (fun _ _ _ h => h) (Or.inl ⟨by rfl, ?_⟩) (by assumption) ?_
            rotate_left
            · intro Wq hSw
              clear hSw
              go_simp
              all_goals (with_reducible rfl)
            try simp only [Act.put, List.getElem_toArray, List.getElem_cons_succ, List.getElem_cons_zero, List.setIfInBounds_toArray, List.set_cons_zero, List.set_cons_succ]
            refine wpAnyH_take (i := 3) (v := ?_) rfl (by kernel_rfl) (by kernel_rfl) (by kernel_rfl) (fun _ _ _ h => h) (Or.inl ⟨by rfl, ?_⟩) (by assumption) ?_
            rotate_left
            · intro Wq hSw
              clear hSw
              go_simp
              all_goals (with_reducible rfl)
            try simp only [Act.put, List.getElem_toArray, List.getElem_cons_succ, List.getElem_cons_zero, List.setIfInBounds_toArray, List.set_cons_zero, List.set_cons_succ]
            refine wpAnyH_take (i := 4) (v := ?_) rfl (by kernel_rfl) (by kernel_rfl) (by kernel_rfl) (fun _ _ _ h => h) (Or.inl ⟨by rfl, ?_⟩) (by assumption) ?_
            rotate_left
            · intro Wq hSw
              have b1 : ((k : Int) < (L.length : Int)) = True := eq_true (by omega)
              have d1 : (k < L.length) = True := eq_true (by omega)
              have c1 : ((0 : Int) ≤ (k : Int)) = True := eq_true (by omega)
              clear hSw
              go_simp
              all_goals (with_reducible rfl)
            try simp only [Act.put, List.getElem_toArray, List.getElem_cons_succ, List.getElem_cons_zero, List.setIfInBounds_toArray, List.set_cons_zero, List.set_cons_succ]
            refine wpAnyH_take (i := 5) (v := ?_) rfl (by kernel_rfl) (by kernel_rfl) (by kernel_rfl) (fun _ _ _ h => h) (Or.inl ⟨by rfl, ?_⟩) (by assumption) ?_
            rotate_left
            · intro Wq hSw
              have k0 := intRow_at (HI.out.below hSw) hkl HXK.out
              clear hSw
              go_simp
              all_goals (with_reducible rfl)
            try simp only [Act.put, List.getElem_toArray, List.getElem_cons_succ, List.getElem_cons_zero, List.setIfInBounds_toArray, List.set_cons_zero, List.set_cons_succ]
            refine wpAnyH_take (i := 6) (v := ?_) rfl (by kernel_rfl) (by kernel_rfl) (by kernel_rfl) (fun _ _ _ h => h) (Or.inl ⟨by rfl, ?_⟩) (by assumption) ?_
            rotate_left
            · intro Wq hSw
              clear hSw
              go_simp
              all_goals (with_reducible rfl)
            try simp only [Act.put, List.getElem_toArray, List.getElem_cons_succ, List.getElem_cons_zero, List.setIfInBounds_toArray, List.set_cons_zero, List.set_cons_succ]
            refine wpAnyH_take (i := 7) (v := ?_) rfl (by kernel_rfl) (by kernel_rfl) (by kernel_rfl) (fun _ _ _ h => h) (Or.inl ⟨by rfl, ?_⟩) (by assumption) ?_
            rotate_left
            · intro Wq hSw
              clear hSw
              go_simp
              all_goals (with_reducible rfl)
            try simp only [Act.put, List.getElem_toArray, List.getElem_cons_succ, List.getElem_cons_zero, List.setIfInBounds_toArray, List.set_cons_zero, List.set_cons_succ]
            refine wpAnyH_take (i := 8) (v := ?_) rfl (by kernel_rfl) (by kernel_rfl) (by kernel_rfl) (fun _ _ _ h => h) (Or.inl ⟨by rfl, ?_⟩) (by assumption) ?_
            rotate_left
            · intro Wq hSw
              have b1 : ((i : Int) < (B.length : Int)) = True := eq_true (by omega)
              have d1 : (i < B.length) = True := eq_true (by omega)
              have c1 : ((0 : Int) ≤ (i : Int)) = True := eq_true (by omega)
              clear hSw
              go_simp
              all_goals (with_reducible rfl)
            try simp only [Act.put, List.getElem_toArray, List.getElem_cons_succ, List.getElem_cons_zero, List.setIfInBounds_toArray, List.set_cons_zero, List.set_cons_succ]
            refine wpAnyH_take (i := 9) (v := ?_) rfl (by kernel_rfl) (by kernel_rfl) (by kernel_rfl) (fun _ _ _ h => h) (Or.inl ⟨by rfl, ?_⟩) (by assumption) ?_
            rotate_left
            · intro Wq hSw
              obtain ⟨gB, oB, eB, k0⟩ := HBR.out.below hSw i hiB
              cases eB
              rw [HBI.out] at k0
              clear hSw
              go_simp
              all_goals (with_reducible rfl)
            try simp only [Act.put, List.getElem_toArray, List.getElem_cons_succ, List.getElem_cons_zero, List.setIfInBounds_toArray, List.set_cons_zero, List.set_cons_succ]
            refine wpAnyH_take (i := 10) (v := ?_) rfl (by kernel_rfl) (by kernel_rfl) (by kernel_rfl) (fun _ _ _ h => h) (Or.inl ⟨by rfl, ?_⟩) (by assumption) ?_
            rotate_left
            · intro Wq hSw
              obtain ⟨m1, m2, -, -⟩ := wnum (i := y) (by omega)
              clear hSw
              go_simp
              all_goals (with_reducible rfl)
            try simp only [Act.put, List.getElem_toArray, List.getElem_cons_succ, List.getElem_cons_zero, List.setIfInBounds_toArray, List.set_cons_zero, List.set_cons_succ]
            refine wpAnyH_take (i := 11) (v := ?_) rfl (by kernel_rfl) (by kernel_rfl) (by kernel_rfl) (fun _ _ _ h => h) (Or.inl ⟨by rfl, ?_⟩) (by assumption) ?_
            rotate_left
            · intro Wq hSw
              clear hSw
              go_simp
              all_goals (with_reducible rfl)
            try simp only [Act.put, List.getElem_toArray, List.getElem_cons_succ, List.getElem_cons_zero, List.setIfInBounds_toArray, List.set_cons_zero, List.set_cons_succ]
            refine wpAnyH_take (i := 12) (v := ?_) rfl (by kernel_rfl) (by kernel_rfl) (by kernel_rfl) (fun _ _ _ h => h) (Or.inl ⟨by rfl, ?_⟩) (by assumption) ?_
            rotate_left
            · intro Wq hSw
              clear hSw
              go_simp
              all_goals (with_reducible rfl)
            try simp only [Act.put, List.getElem_toArray, List.getElem_cons_succ, List.getElem_cons_zero, List.setIfInBounds_toArray, List.set_cons_zero, List.set_cons_succ]
            refine wpAnyH_take (i := 13) (v := ?_) rfl (by kernel_rfl) (by kernel_rfl) (by kernel_rfl) (fun _ _ _ h => h) (Or.inl ⟨by rfl, ?_⟩) (by assumption) ?_
            rotate_left
            · intro Wq hSw
              clear hSw
              go_simp
              all_goals (with_reducible rfl)
            try simp only [Act.put, List.getElem_toArray, List.getElem_cons_succ, List.getElem_cons_zero, List.setIfInBounds_toArray, List.set_cons_zero, List.set_cons_succ]
            refine wpAnyH_done (by kernel_rfl) ?_ _
            replace HO := Lib.hid (HO.out.below hHeld)
            clear hHeld HI HBR
            obtain ⟨m1, m2, m3, m4⟩ := wnum (i := k) (by omega)
            go_wp2_with fail
            clear m1 m2 m3 m4
            exact ⟨⟨k + 1, hkl, by rw [Int.natCast_add]; rfl, by rw [HTK.out], HO.out⟩, by simp [intOf]; omega⟩
          · rw [Bool.true_or] at HTK
            go_wp2_with fail
            refine wp_region_held_drew (S := fun V => Below wr.heap.size wr V) (by kernel_rfl) ?_ (fun hHeld => ?_)
            · exact bel_drew wr
            revert hHeld
            generalize World.drew _ = W1
            intro hHeld 
            refine wpAnyH_take (i := 0) (v := ?_) rfl (by kernel_rfl) (by kernel_rfl) (by kernel_rfl) (fun _ _ _ h => h) (Or.inl ⟨by rfl, ?_⟩) (by assumption) ?_
            rotate_left
            · intro Wq hSw
              clear hSw
              go_simp
              all_goals (with_reducible rfl)
            try simp only [Act.put, List.getElem_toArray, List.getElem_cons_zero, List.setIfInBounds_toArray, List.set_cons_zero, List.set_cons_succ]
            refine wpAnyH_take (i := 1) (v := ?_) rfl (by kernel_rfl) (by kernel_rfl) (by kernel_rfl) (fun _ _ _ h => h) (Or.inl ⟨by rfl, ?_⟩) (by assumption) ?_
            rotate_left
            · intro Wq hSw
              clear hSw
              go_simp
              all_goals (with_reducible rfl)
            try simp only [Act.put, List.getElem_toArray, List.getElem_cons_succ, List.getElem_cons_zero, List.setIfInBounds_toArray, List.set_cons_zero, List.set_cons_succ]
            refine wpAnyH_take (i := 2) (v := _) rfl (by kernel_rfl) (by kernel_rfl) (by kernel_rfl) (fun _ _ _ h => h) (Or.inr ⟨by rfl, rfl⟩) (by assumption) ?_
            try simp only [Act.put, List.getElem_toArray, List.getElem_cons_succ, List.getElem_cons_zero, List.setIfInBounds_toArray, List.set_cons_zero, List.set_cons_succ]
            refine wpAnyH_take (i := 3) (v := _) rfl (by kernel_rfl) (by kernel_rfl) (by kernel_rfl) (fun _ _ _ h => h) (Or.inr ⟨by rfl, rfl⟩) (by assumption) ?_
            try simp only [Act.put, List.getElem_toArray, List.getElem_cons_succ, List.getElem_cons_zero, List.setIfInBounds_toArray, List.set_cons_zero, List.set_cons_succ]
            refine wpAnyH_take (i := 4) (v := _) rfl (by kernel_rfl) (by kernel_rfl) (by kernel_rfl) (fun _ _ _ h => h) (Or.inr ⟨by rfl, rfl⟩) (by assumption) ?_
            try simp only [Act.put, List.getElem_toArray, List.getElem_cons_succ, List.getElem_cons_zero, List.setIfInBounds_toArray, List.set_cons_zero, List.set_cons_succ]
            refine wpAnyH_take (i := 5) (v := _) rfl (by kernel_rfl) (by kernel_rfl) (by kernel_rfl) (fun _ _ _ h => h) (Or.inr ⟨by rfl, rfl⟩) (by assumption) ?_
            try simp only [Act.put, List.getElem_toArray, List.getElem_cons_succ, List.getElem_cons_zero, List.setIfInBounds_toArray, List.set_cons_zero, List.set_cons_succ]
            refine wpAnyH_take (i := 6) (v := _) rfl (by kernel_rfl) (by kernel_rfl) (by kernel_rfl) (fun _ _ _ h => h) (Or.inr ⟨by rfl, rfl⟩) (by assumption) ?_
            try simp only [Act.put, List.getElem_toArray, List.getElem_cons_succ, List.getElem_cons_zero, List.setIfInBounds_toArray, List.set_cons_zero, List.set_cons_succ]
            refine wpAnyH_take (i := 7) (v := _) rfl (by kernel_rfl) (by kernel_rfl) (by kernel_rfl) (fun _ _ _ h => h) (Or.inr ⟨by rfl, rfl⟩) (by assumption) ?_
            try simp only [Act.put, List.getElem_toArray, List.getElem_cons_succ, List.getElem_cons_zero, List.setIfInBounds_toArray, List.set_cons_zero, List.set_cons_succ]
            refine wpAnyH_take (i := 8) (v := _) rfl (by kernel_rfl) (by kernel_rfl) (by kernel_rfl) (fun _ _ _ h => h) (Or.inr ⟨by rfl, rfl⟩) (by assumption) ?_
            try simp only [Act.put, List.getElem_toArray, List.getElem_cons_succ, List.getElem_cons_zero, List.setIfInBounds_toArray, List.set_cons_zero, List.set_cons_succ]
            refine wpAnyH_take (i := 9) (v := _) rfl (by kernel_rfl) (by kernel_rfl) (by kernel_rfl) (fun _ _ _ h => h) (Or.inr ⟨by rfl, rfl⟩) (by assumption) ?_
            try simp only [Act.put, List.getElem_toArray, List.getElem_cons_succ, List.getElem_cons_zero, List.setIfInBounds_toArray, List.set_cons_zero, List.set_cons_succ]
            refine wpAnyH_take (i := 10) (v := _) rfl (by kernel_rfl) (by kernel_rfl) (by kernel_rfl) (fun _ _ _ h => h) (Or.inr ⟨by rfl, rfl⟩) (by assumption) ?_
            try simp only [Act.put, List.getElem_toArray, List.getElem_cons_succ, List.getElem_cons_zero, List.setIfInBounds_toArray, List.set_cons_zero, List.set_cons_succ]
            refine wpAnyH_take (i := 11) (v := _) rfl (by kernel_rfl) (by kernel_rfl) (by kernel_rfl) (fun _ _ _ h => h) (Or.inr ⟨by rfl, rfl⟩) (by assumption) ?_
            try simp only [Act.put, List.getElem_toArray, List.getElem_cons_succ, List.getElem_cons_zero, List.setIfInBounds_toArray, List.set_cons_zero, List.set_cons_succ]
            refine wpAnyH_take (i := 12) (v := ?_) rfl (by kernel_rfl) (by kernel_rfl) (by kernel_rfl) (fun _ _ _ h => h) (Or.inl ⟨by rfl, ?_⟩) (by assumption) ?_
            rotate_left
            · intro Wq hSw
              clear hSw
              go_simp
              all_goals (with_reducible rfl)
            try simp only [Act.put, List.getElem_toArray, List.getElem_cons_succ, List.getElem_cons_zero, List.setIfInBounds_toArray, List.set_cons_zero, List.set_cons_succ]
            refine wpAnyH_take (i := 13) (v := ?_) rfl (by kernel_rfl) (by kernel_rfl) (by kernel_rfl) (fun _ _ _ h => h) (Or.inl ⟨by rfl, ?_⟩) (by assumption) ?_
            rotate_left
            · intro Wq hSw
              clear hSw
              go_simp
              all_goals (with_reducible rfl)
            try simp only [Act.put, List.getElem_toArray, List.getElem_cons_succ, List.getElem_cons_zero, List.setIfInBounds_toArray, List.set_cons_zero, List.set_cons_succ]
            refine wpAnyH_done (by kernel_rfl) ?_ _
            replace HO := Lib.hid (HO.out.below hHeld)
            clear hHeld HI HBR
            obtain ⟨m1, m2, m3, m4⟩ := wnum (i := k) (by omega)
            go_wp2_with fail
            clear m1 m2 m3 m4
            exact ⟨⟨k + 1, hkl, by rw [Int.natCast_add]; rfl, by rw [HTK.out], HO.out⟩, by simp [intOf]; omega⟩
        · obtain rfl : k = L.length := by omega
          have q3 : ((L.length : Int) < (L.length : Int)) = False := eq_false (by omega)
          rw [List.take_length]
          obtain ⟨bb, hbb⟩ : ∃ b, L.contains (y : Int) = b := ⟨_, rfl⟩
          rw [hbb]
          have HCB := Lib.hid hbb
          clear hbb
          obtain ⟨n1, n2, n3, n4⟩ := wnum (i := i) (by omega)
          cases bb
          · obtain ⟨gB, oB, eB, k7⟩ := HBR.out i hiB
            cases eB
            rw [HBI.out] at k7
            obtain ⟨p1, p2, -, -⟩ := wnum (i := y) (by omega)
            go_wp2_with (at_builtin; refine app_ints rfl _ _ rfl rfl (HO.out.alloc _) rfl (L := [(y : Int)]) rfl (intRow_new _ _ _) (fun h => by cases h) (by simp; omega) ?_)
            intro v5 w5 hO5
            have HO5 := Lib.hid hO5
            obtain ⟨a5, c5, rfl, -, -, -⟩ := hO5.slice
            clear hO5 HO HI HBR k7 p1 p2
            go_wp2_with fail
            clear n1 n2 n3 n4
            refine ⟨⟨i + 1, L ++ [(y : Int)], hiB, h60, by rw [Int.natCast_add]; rfl, by simp; omega, ?_, ?_, HO5.out⟩, by simp [intOf]; omega⟩
            · rw [List.nodup_append]
              refine ⟨HND.out, by simp, fun a ha b hb => ?_⟩
              simp at hb
              subst hb
              intro e
              subst e
              have := HCB.out
              simp at this
              exact this ha
            · intro x hx
              rcases List.mem_append.1 hx with h | h
              · exact HIN.out x h
              · simp at h
                omega
          · go_wp2_with fail
            clear n1 n2 n3 n4
            exact ⟨⟨i + 1, L, hiB, h60, by rw [Int.natCast_add]; rfl, by omega, HND.out, HIN.out, HO.out⟩, by simp [intOf]; omega⟩
    · have h9 : (¬ i < B.length) ∨ (i < B.length ∧ ¬ i < 60) := by omega
      have h60 : L.length ≤ 60 := by omega
      clear hlt HBB
      rcases h9 with h | ⟨h, h'⟩
      · have q1 : ((i : Int) < (B.length : Int)) = False := eq_false (by omega)
        have q1' : (i < B.length) = False := eq_false h
        go_upto_region 12 with (fail)
        clear q1 q1' h hi hi60 hLi
        by_cases h3 : L.length < 3
        · have b1 : ((L.length : Int) < 3) = True := eq_true (by omega)
          have b1' : (L.length < 3) = True := eq_true h3
          go_wp2_with fail
          (with_reducible refine (KN.out _).mono ?_); rintro e w1 ⟨rfl, hb1⟩
          go_wp2
          go_ret
          exact ⟨rfl, bl_trans HO0.out.hb hb1⟩
        have b1 : ((L.length : Int) < 3) = False := eq_false (by omega)
        have b1' : (L.length < 3) = False := eq_false h3
        have ROW : Hid (Row 256 L) := ⟨HND.out, fun r h => by have := HIN.out r h; omega, by omega⟩
        have hIL : IntRow wr aL L := by
          obtain ⟨a, c, e, -, h, -⟩ := HO0.out.slice
          cases e
          exact h
        have HSL : Hid (Calls Try.prog 23 #[.slice (some ⟨wr.heap.size, 0, none⟩) 1 1] (wr.alloc (.cells #[.slice aL L.length cL] 24)) fun e w' => ∃ v, e = .returned v ∧ Op 36 (wr.alloc (.cells #[.slice aL L.length cL] 24)) v (segsF [L]) w') :=
          segs_l [L] (some ⟨wr.heap.size, 0, none⟩) 1 _ (rowsAt_one wr aL L cL hIL hcL hnL _) (by simp) (by simp [total]; omega)
        have HB4 := Lib.hid (bl_trans HO0.out.hb (bl_one wr (.cells #[.slice aL L.length cL] 24)))
        clear hIL hnL hcL HND HIN HO0 HBR0
        go_wp2_with fail
        (with_reducible refine HSL.out.mono ?_); rintro e w4 ⟨v4, rfl, hO4⟩
        have hsf : segsF [L] = ringSegs L := by simp [segsF]
        rw [hsf] at hO4
        obtain ⟨Q, hQ1, hQ2⟩ := ROW.out.rings (by decide)
        have hSL := ringSegs_len L
        have HCUT : Hid (∀ k, k < L.length → ∀ s, pget (ringSegs L) k = s → ringsR (256 : Int) ((ringSegs L).take k ++ (ringSegs L).drop (k + 1)) = ([], min s.x s.y, 81)) := fun k hk s hs => ROW.out.cut (by decide) hk hs
        have HTW : Hid (∀ k, k < L.length → ringsR (256 : Int) (ringSegs L ++ [pget (ringSegs L) k]) = ([], (L.length : Int), 80)) := fun k hk => ROW.out.twice (by decide) hk
        replace hQ1 : ringsR (256 : Int) (ringSegs L) = ([Q], 0, 0) := hQ1
        generalize ringSegs L = S at *
        replace HB4 := Lib.hid (bl_trans HB4.out hO4.hb)
        obtain ⟨adS, cpS, rfl, hcS, hPS, hnS⟩ := hO4.slice
        have HPS := Lib.hid hPS
        have HR1 := Lib.hid (rings_at hQ1 adS cpS w4 hPS (by decide) (by omega))
        obtain ⟨gS, oS, rfl⟩ := hPS.some (by omega)
        obtain ⟨N, hN⟩ : ∃ N, L.length = N := ⟨_, rfl⟩
        rw [hN] at hSL hQ2 HCUT HTW h60 h3 b1 b1' ⊢
        simp only [hSL, List.length_cons, List.length_nil] at HR1 ⊢
        rw [hSL] at hcS
        clear hQ1 hsf hnS hPS hO4 HSL ROW hN b1 b1'
        go_wp2_with fail
        (with_reducible refine HR1.out.mono ?_); rintro e w5 ⟨a5, c5, rfl, hR5, -, -, hb5⟩
        obtain ⟨g5, o5, aq, cq, e5, hq, -, -, -⟩ := hR5 0 (Nat.lt_succ_self 0)
        cases e5
        simp only [List.getElem_cons_zero, Nat.add_zero] at hq
        rw [hQ2] at hq
        replace HB4 := Lib.hid (bl_trans HB4.out hb5)
        replace HPS := Lib.hid (HPS.out.below hb5)
        clear hR5 hb5 HR1 hQ2
        go_upto_region 20 with (fail)
        go_cut [13] (fun kv W => ∃ k : Nat, kv = .int .i64 k ∧ k < N ∧ w5 = W)
        case first =>
          have HN := Lib.hid h60
          have HN3 := Lib.hid h3
          have b3 : ((N : Int) = 0) = False := eq_false (by omega)
          have b4 : ((N : Int) == 0) = false := beq_eq_false_iff_ne.2 (by omega)
          have b5 : (N = 0) = False := eq_false (by omega)
          have HSL := Lib.hid hSL
          have hN1 : 0 < N := by omega
          clear h3 hq hSL
          go_wp2_with fail
          go_meet
          case rel =>
            obtain ⟨r, hr, e⟩ := u64modn cut N (by have := HN3.out; omega) (by have := HN.out; omega)
            exact ⟨r, by rw [e], hr, rfl⟩
        case rest =>
        obtain ⟨k, rfl, hk, rfl⟩ := hcut
        clear hq h3
        have hkS : k < S.length := by omega
        go_upto_region 22 with (fail)
        obtain ⟨w1, w3, w2, w4⟩ := wnum (i := k) (by omega)
        have c1 : ((0 : Int) ≤ (k : Int)) = True := eq_true (by omega)
        have c2 : ((k : Int) ≤ (N : Int)) = True := eq_true (by omega)
        have c3 : ((k : Int) ≤ (cpS : Int)) = True := eq_true (by omega)
        have d2 : (k ≤ N) = True := eq_true (by omega)
        have d3 : (k ≤ cpS) = True := eq_true (by omega)
        have d4 : (N ≤ cpS) = True := eq_true hcS
        go_cut [14] (fun xv W => Op 36 w5 xv (S.take k) W)
        case first =>
          go_wp2_with (at_builtin; refine app_pts rfl Try.underlying22 info_eseg _ _ rfl rfl (op_nil _ w5) rfl (L := S.take k) (by rw [List.length_take]; omega) (HPS.out.take k) (fun h => by cases h) ?x2 ?_)
          case x2 => simp; omega
          intro v1 w1 hO1
          go_wp2_with fail
          go_meet
          case rel => exact hO1
        case rest =>
        have HO := Lib.hid hcut
        clear hcut c1 c2 c3 d2 d3
        have c1 : ((0 : Int) ≤ (k : Int) + 1) = True := eq_true (by omega)
        have c2 : ((k : Int) + 1 ≤ (N : Int)) = True := eq_true (by omega)
        have c3 : ((k : Int) + 1 ≤ (cpS : Int)) = True := eq_true (by omega)
        have d2 : (k + 1 ≤ N) = True := eq_true (by omega)
        have d3 : (k + 1 ≤ cpS) = True := eq_true (by omega)
        go_upto_region 23 with (fail)
        go_cut [14] (fun xv W => Op 36 w5 xv (S.take k ++ S.drop (k + 1)) W)
        case first =>
          by_cases hck : cpS = k + 1
          · subst hck
            obtain rfl : N = k + 1 := by omega
            have e1 : S.drop (k + 1) = [] := List.drop_eq_nil_of_le (by omega)
            go_wp2_with (at_builtin; refine app_pts rfl Try.underlying22 info_eseg _ _ rfl rfl HO.out rfl (L := []) (by first | rfl | (simp; done) | (simp; omega)) (ptRow_nil _ _) (fun h => by cases h) (by rw [List.length_take]; simp; omega) ?_)
            intro v1 w1 hO1
            go_wp2_with fail
            go_meet
            case rel => rw [e1, List.append_nil]; exact hO1
          · have c4 : (cpS = k + 1) = False := eq_false hck
            have HLN : Hid ((S.take k).length + (S.drop (k + 1)).length ≤ 1000000) := (show (S.take k).length + (S.drop (k + 1)).length ≤ 1000000 by rw [List.length_take, List.length_drop]; omega)
            have HDL : Hid (N - (k + 1) = (S.drop (k + 1)).length) := (show N - (k + 1) = (S.drop (k + 1)).length by rw [List.length_drop, hSL])
            have HPD := Lib.hid (HPS.out.below HO.out.hb)
            clear hSL hcS h60 hkS hck
            go_wp2_with (at_builtin; refine app_pts rfl Try.underlying22 info_eseg _ _ rfl rfl HO.out rfl (L := S.drop (k + 1)) HDL.out (HPD.out.drop (k + 1) (fun g o h _ => by cases h; first | rfl | exact congrArg some (add_plain g o ((k + 1) * 2)))) (fun h => by cases h) HLN.out ?_)
            intro v1 w1 hO1
            go_wp2_with fail
            go_meet
            case rel => exact hO1
        case rest =>
        have HO1 := Lib.hid hcut
        clear hcut HO c1 c2 c3 d2 d3 d4 w1 w2 w3 w4
        obtain ⟨s, hs⟩ : ∃ s, pget S k = s := ⟨_, rfl⟩
        have hlc : (S.take k ++ S.drop (k + 1)).length ≤ 10000 := by rw [List.length_append, List.length_take, List.length_drop]; omega
        have hcu := HCUT.out k hk s hs
        have HLT : Hid ((S ++ [s]).length ≤ 1000000) := (show (S ++ [s]).length ≤ 1000000 by simp; omega)
        have htw := HTW.out k hk
        rw [hs] at htw
        have HTW2 := Lib.hid htw
        have HSK := Lib.hid hs
        clear hs htw HCUT HTW
        generalize S.take k ++ S.drop (k + 1) = M at *
        obtain ⟨adM, cpM, hvM, -, hPM, -⟩ := HO1.out.slice
        have HR2 := Lib.hid (rings_at hcu adM cpM wc hPM (by decide) hlc)
        replace HB4 := Lib.hid (bl_trans HB4.out HO1.out.hb)
        replace HPS := Lib.hid (HPS.out.below HO1.out.hb)
        subst hvM
        clear hcu hlc hPM HO1
        go_wp2_with fail
        (with_reducible refine HR2.out.mono ?_); rintro e w6 ⟨a6, c6, rfl, -, -, -, hb6⟩
        replace HB4 := Lib.hid (bl_trans HB4.out hb6)
        replace HPS := Lib.hid (HPS.out.below hb6)
        clear hb6 HR2
        go_upto_region 26 with (fail)
        go_cut [18] (fun xv W => Op 36 w6 xv S W)
        case first =>
          go_wp2_with (at_builtin; refine app_pts rfl Try.underlying22 info_eseg _ _ rfl rfl (op_nil _ w6) rfl (L := S) hSL.symm HPS.out (fun h => by cases h) (by simp; omega) ?_)
          intro v1 w1 hO1
          go_wp2_with fail
          go_meet
          case rel => exact hO1
        case rest =>
        have HO := Lib.hid hcut
        clear hcut
        obtain ⟨k0, k1⟩ := ptRow_at (HPS.out.below HO.out.hb) hkS HSK.out
        have c1 : ((0 : Int) ≤ (k : Int)) = True := eq_true (by omega)
        have c2 : ((k : Int) < (N : Int)) = True := eq_true (by omega)
        have d2 : (k < N) = True := eq_true hk
        obtain ⟨e0, hi0, hz0, hz1, hz2⟩ := info_parts info_eseg
        go_upto_region 27 with (fail)
        go_cut [18] (fun xv W => Op 36 w6 xv (S ++ [s]) W)
        case first =>
          go_wp2_with (at_builtin; refine app_pts rfl Try.underlying22 info_eseg _ _ rfl rfl (HO.out.alloc _) rfl (L := [s]) rfl (ptRow_new _ s _) (fun h => by cases h) (by simp; omega) ?_)
          intro v1 w1 hO1
          go_wp2_with fail
          go_meet
          case rel => exact hO1
        case rest =>
        have HO1 := Lib.hid hcut
        clear hcut HO k0 k1 c1 c2 d2
        have hlc : (S ++ [s]).length ≤ 10000 := by simp; omega
        clear h60
        have htw := HTW2.out
        clear HLT HTW2
        generalize S ++ [s] = M2 at *
        obtain ⟨adM, cpM, hvM, -, hPM, -⟩ := HO1.out.slice
        have HR3 := Lib.hid (rings_at htw adM cpM wc hPM (by decide) hlc)
        replace HB4 := Lib.hid (bl_trans HB4.out HO1.out.hb)
        replace HPS := Lib.hid (HPS.out.below HO1.out.hb)
        subst hvM
        clear htw hlc hPM HO1 e0 hi0 hz0 hz1 hz2
        go_wp2_with fail
        (with_reducible refine HR3.out.mono ?_); rintro e w9 ⟨a9, c9, rfl, -, -, -, hb9⟩
        have HB := Lib.hid (bl_trans HB4.out hb9)
        replace HPS := Lib.hid (HPS.out.below hb9)
        clear hb9 HR3 HB4
        go_upto_region 29 with (fail)
        refine wp_region_held_drew (S := fun V => Below w9.heap.size w9 V) (by kernel_rfl) ?_ (fun hHeld => ?_)
        · exact bel_drew w9
        revert hHeld
        generalize World.drew _ = W1
        intro hHeld 
        refine wpAnyH_take (i := 0) (v := ?_) rfl (by kernel_rfl) (by kernel_rfl) (by kernel_rfl) (fun _ _ _ h => h) (Or.inl ⟨by rfl, ?_⟩) (by assumption) ?_
        rotate_left
        · intro Wq hSw
          clear hSw
          go_simp
          all_goals (with_reducible rfl)
        try simp only [Act.put, List.getElem_toArray, List.getElem_cons_zero, List.setIfInBounds_toArray, List.set_cons_zero, List.set_cons_succ]
        refine wpAnyH_take (i := 1) (v := ?_) rfl (by kernel_rfl) (by kernel_rfl) (by kernel_rfl) (fun _ _ _ h => h) (Or.inl ⟨by rfl, ?_⟩) (by assumption) ?_
        rotate_left
        · intro Wq hSw
          clear hSw
          go_simp
          all_goals (with_reducible rfl)
        try simp only [Act.put, List.getElem_toArray, List.getElem_cons_succ, List.getElem_cons_zero, List.setIfInBounds_toArray, List.set_cons_zero, List.set_cons_succ]
        refine wpAnyH_take (i := 2) (v := ?_) rfl (by kernel_rfl) (by kernel_rfl) (by kernel_rfl) (fun _ _ _ h => h) (Or.inl ⟨by rfl, ?_⟩) (by assumption) ?_
        rotate_left
        · intro Wq hSw
          clear hSw
          go_simp
          all_goals (with_reducible rfl)
        try simp only [Act.put, List.getElem_toArray, List.getElem_cons_succ, List.getElem_cons_zero, List.setIfInBounds_toArray, List.set_cons_zero, List.set_cons_succ]
        refine wpAnyH_take (i := 3) (v := ?_) rfl (by kernel_rfl) (by kernel_rfl) (by kernel_rfl) (fun _ _ _ h => h) (Or.inl ⟨by rfl, ?_⟩) (by assumption) ?_
        rotate_left
        · intro Wq hSw
          clear hSw
          go_simp
          all_goals (with_reducible rfl)
        try simp only [Act.put, List.getElem_toArray, List.getElem_cons_succ, List.getElem_cons_zero, List.setIfInBounds_toArray, List.set_cons_zero, List.set_cons_succ]
        refine wpAnyH_take (i := 4) (v := ?_) rfl (by kernel_rfl) (by kernel_rfl) (by kernel_rfl) (fun _ _ _ h => h) (Or.inl ⟨by rfl, ?_⟩) (by assumption) ?_
        rotate_left
        · intro Wq hSw
          clear hSw
          go_simp
          all_goals (with_reducible rfl)
        try simp only [Act.put, List.getElem_toArray, List.getElem_cons_succ, List.getElem_cons_zero, List.setIfInBounds_toArray, List.set_cons_zero, List.set_cons_succ]
        refine wpAnyH_take (i := 5) (v := ?_) rfl (by kernel_rfl) (by kernel_rfl) (by kernel_rfl) (fun _ _ _ h => h) (Or.inl ⟨by rfl, ?_⟩) (by assumption) ?_
        rotate_left
        · intro Wq hSw
          clear hSw
          go_simp
          all_goals (with_reducible rfl)
        try simp only [Act.put, List.getElem_toArray, List.getElem_cons_succ, List.getElem_cons_zero, List.setIfInBounds_toArray, List.set_cons_zero, List.set_cons_succ]
        refine wpAnyH_take (i := 6) (v := ?_) rfl (by kernel_rfl) (by kernel_rfl) (by kernel_rfl) (fun _ _ _ h => h) (Or.inl ⟨by rfl, ?_⟩) (by assumption) ?_
        rotate_left
        · intro Wq hSw
          have b1 : ((k : Int) < (N : Int)) = True := eq_true (by omega)
          have d1 : (k < N) = True := eq_true hk
          have c1 : ((0 : Int) ≤ (k : Int)) = True := eq_true (by omega)
          clear hSw
          go_simp
          all_goals (with_reducible rfl)
        try simp only [Act.put, List.getElem_toArray, List.getElem_cons_succ, List.getElem_cons_zero, List.setIfInBounds_toArray, List.set_cons_zero, List.set_cons_succ]
        refine wpAnyH_take (i := 7) (v := ?_) rfl (by kernel_rfl) (by kernel_rfl) (by kernel_rfl) (fun _ _ _ h => h) (Or.inl ⟨by rfl, ?_⟩) (by assumption) ?_
        rotate_left
        · intro Wq hSw
          clear hSw
          go_simp
          all_goals (with_reducible rfl)
        try simp only [Act.put, List.getElem_toArray, List.getElem_cons_succ, List.getElem_cons_zero, List.setIfInBounds_toArray, List.set_cons_zero, List.set_cons_succ]
        refine wpAnyH_take (i := 8) (v := ?_) rfl (by kernel_rfl) (by kernel_rfl) (by kernel_rfl) (fun _ _ _ h => h) (Or.inl ⟨by rfl, ?_⟩) (by assumption) ?_
        rotate_left
        · intro Wq hSw
          obtain ⟨k0, k1⟩ := ptRow_at (HPS.out.below hSw) hkS HSK.out
          clear hSw
          go_simp
          all_goals (with_reducible rfl)
        try simp only [Act.put, List.getElem_toArray, List.getElem_cons_succ, List.getElem_cons_zero, List.setIfInBounds_toArray, List.set_cons_zero, List.set_cons_succ]
        refine wpAnyH_take (i := 9) (v := ?_) rfl (by kernel_rfl) (by kernel_rfl) (by kernel_rfl) (fun _ _ _ h => h) (Or.inl ⟨by rfl, ?_⟩) (by assumption) ?_
        rotate_left
        · intro Wq hSw
          clear hSw
          go_simp
          all_goals (with_reducible rfl)
        try simp only [Act.put, List.getElem_toArray, List.getElem_cons_succ, List.getElem_cons_zero, List.setIfInBounds_toArray, List.set_cons_zero, List.set_cons_succ]
        refine wpAnyH_take (i := 10) (v := ?_) rfl (by kernel_rfl) (by kernel_rfl) (by kernel_rfl) (fun _ _ _ h => h) (Or.inl ⟨by rfl, ?_⟩) (by assumption) ?_
        rotate_left
        · intro Wq hSw
          clear hSw
          go_simp
          all_goals (with_reducible rfl)
        try simp only [Act.put, List.getElem_toArray, List.getElem_cons_succ, List.getElem_cons_zero, List.setIfInBounds_toArray, List.set_cons_zero, List.set_cons_succ]
        refine wpAnyH_take (i := 11) (v := ?_) rfl (by kernel_rfl) (by kernel_rfl) (by kernel_rfl) (fun _ _ _ h => h) (Or.inl ⟨by rfl, ?_⟩) (by assumption) ?_
        rotate_left
        · intro Wq hSw
          have b1 : ((k : Int) < (N : Int)) = True := eq_true (by omega)
          have d1 : (k < N) = True := eq_true hk
          have c1 : ((0 : Int) ≤ (k : Int)) = True := eq_true (by omega)
          clear hSw
          go_simp
          all_goals (with_reducible rfl)
        try simp only [Act.put, List.getElem_toArray, List.getElem_cons_succ, List.getElem_cons_zero, List.setIfInBounds_toArray, List.set_cons_zero, List.set_cons_succ]
        refine wpAnyH_take (i := 12) (v := ?_) rfl (by kernel_rfl) (by kernel_rfl) (by kernel_rfl) (fun _ _ _ h => h) (Or.inl ⟨by rfl, ?_⟩) (by assumption) ?_
        rotate_left
        · intro Wq hSw
          clear hSw
          go_simp
          all_goals (with_reducible rfl)
        try simp only [Act.put, List.getElem_toArray, List.getElem_cons_succ, List.getElem_cons_zero, List.setIfInBounds_toArray, List.set_cons_zero, List.set_cons_succ]
        refine wpAnyH_take (i := 13) (v := ?_) rfl (by kernel_rfl) (by kernel_rfl) (by kernel_rfl) (fun _ _ _ h => h) (Or.inl ⟨by rfl, ?_⟩) (by assumption) ?_
        rotate_left
        · intro Wq hSw
          obtain ⟨k0, k1⟩ := ptRow_at (HPS.out.below hSw) hkS HSK.out
          clear hSw
          go_simp
          all_goals (with_reducible rfl)
        try simp only [Act.put, List.getElem_toArray, List.getElem_cons_succ, List.getElem_cons_zero, List.setIfInBounds_toArray, List.set_cons_zero, List.set_cons_succ]
        refine wpAnyH_take (i := 14) (v := ?_) rfl (by kernel_rfl) (by kernel_rfl) (by kernel_rfl) (fun _ _ _ h => h) (Or.inl ⟨by rfl, ?_⟩) (by assumption) ?_
        rotate_left
        · intro Wq hSw
          clear hSw
          go_simp
          all_goals (with_reducible rfl)
        try simp only [Act.put, List.getElem_toArray, List.getElem_cons_succ, List.getElem_cons_zero, List.setIfInBounds_toArray, List.set_cons_zero, List.set_cons_succ]
        refine wpAnyH_take (i := 15) (v := ?_) rfl (by kernel_rfl) (by kernel_rfl) (by kernel_rfl) (fun _ _ _ h => h) (Or.inl ⟨by rfl, ?_⟩) (by assumption) ?_
        rotate_left
        · intro Wq hSw
          clear hSw
          go_simp
          all_goals (with_reducible rfl)
        try simp only [Act.put, List.getElem_toArray, List.getElem_cons_succ, List.getElem_cons_zero, List.setIfInBounds_toArray, List.set_cons_zero, List.set_cons_succ]
        refine wpAnyH_take (i := 16) (v := ?_) rfl (by kernel_rfl) (by kernel_rfl) (by kernel_rfl) (fun _ _ _ h => h) (Or.inl ⟨by rfl, ?_⟩) (by assumption) ?_
        rotate_left
        · intro Wq hSw
          clear hSw
          go_simp
          all_goals (with_reducible rfl)
        try simp only [Act.put, List.getElem_toArray, List.getElem_cons_succ, List.getElem_cons_zero, List.setIfInBounds_toArray, List.set_cons_zero, List.set_cons_succ]
        refine wpAnyH_take (i := 17) (v := ?_) rfl (by kernel_rfl) (by kernel_rfl) (by kernel_rfl) (fun _ _ _ h => h) (Or.inl ⟨by rfl, ?_⟩) (by assumption) ?_
        rotate_left
        · intro Wq hSw
          clear hSw
          go_simp
          all_goals (with_reducible rfl)
        try simp only [Act.put, List.getElem_toArray, List.getElem_cons_succ, List.getElem_cons_zero, List.setIfInBounds_toArray, List.set_cons_zero, List.set_cons_succ]
        refine wpAnyH_take (i := 18) (v := ?_) rfl (by kernel_rfl) (by kernel_rfl) (by kernel_rfl) (fun _ _ _ h => h) (Or.inl ⟨by rfl, ?_⟩) (by assumption) ?_
        rotate_left
        · intro Wq hSw
          clear hSw
          go_simp
          all_goals (with_reducible rfl)
        try simp only [Act.put, List.getElem_toArray, List.getElem_cons_succ, List.getElem_cons_zero, List.setIfInBounds_toArray, List.set_cons_zero, List.set_cons_succ]
        refine wpAnyH_take (i := 19) (v := ?_) rfl (by kernel_rfl) (by kernel_rfl) (by kernel_rfl) (fun _ _ _ h => h) (Or.inl ⟨by rfl, ?_⟩) (by assumption) ?_
        rotate_left
        · intro Wq hSw
          clear hSw
          go_simp
          all_goals (with_reducible rfl)
        try simp only [Act.put, List.getElem_toArray, List.getElem_cons_succ, List.getElem_cons_zero, List.setIfInBounds_toArray, List.set_cons_zero, List.set_cons_succ]
        refine wpAnyH_take (i := 20) (v := ?_) rfl (by kernel_rfl) (by kernel_rfl) (by kernel_rfl) (fun _ _ _ h => h) (Or.inl ⟨by rfl, ?_⟩) (by assumption) ?_
        rotate_left
        · intro Wq hSw
          clear hSw
          go_simp
          all_goals (with_reducible rfl)
        try simp only [Act.put, List.getElem_toArray, List.getElem_cons_succ, List.getElem_cons_zero, List.setIfInBounds_toArray, List.set_cons_zero, List.set_cons_succ]
        refine wpAnyH_take (i := 21) (v := ?_) rfl (by kernel_rfl) (by kernel_rfl) (by kernel_rfl) (fun _ _ _ h => h) (Or.inl ⟨by rfl, ?_⟩) (by assumption) ?_
        rotate_left
        · intro Wq hSw
          clear hSw
          go_simp
          all_goals (with_reducible rfl)
        try simp only [Act.put, List.getElem_toArray, List.getElem_cons_succ, List.getElem_cons_zero, List.setIfInBounds_toArray, List.set_cons_zero, List.set_cons_succ]
        refine wpAnyH_take (i := 22) (v := ?_) rfl (by kernel_rfl) (by kernel_rfl) (by kernel_rfl) (fun _ _ _ h => h) (Or.inl ⟨by rfl, ?_⟩) (by assumption) ?_
        rotate_left
        · intro Wq hSw
          clear hSw
          go_simp
          all_goals (with_reducible rfl)
        try simp only [Act.put, List.getElem_toArray, List.getElem_cons_succ, List.getElem_cons_zero, List.setIfInBounds_toArray, List.set_cons_zero, List.set_cons_succ]
        refine wpAnyH_take (i := 23) (v := ?_) rfl (by kernel_rfl) (by kernel_rfl) (by kernel_rfl) (fun _ _ _ h => h) (Or.inl ⟨by rfl, ?_⟩) (by assumption) ?_
        rotate_left
        · intro Wq hSw
          clear hSw
          go_simp
          all_goals (with_reducible rfl)
        try simp only [Act.put, List.getElem_toArray, List.getElem_cons_succ, List.getElem_cons_zero, List.setIfInBounds_toArray, List.set_cons_zero, List.set_cons_succ]
        refine wpAnyH_take (i := 24) (v := ?_) rfl (by kernel_rfl) (by kernel_rfl) (by kernel_rfl) (fun _ _ _ h => h) (Or.inl ⟨by rfl, ?_⟩) (by assumption) ?_
        rotate_left
        · intro Wq hSw
          clear hSw
          go_simp
          all_goals (with_reducible rfl)
        try simp only [Act.put, List.getElem_toArray, List.getElem_cons_succ, List.getElem_cons_zero, List.setIfInBounds_toArray, List.set_cons_zero, List.set_cons_succ]
        refine wpAnyH_take (i := 25) (v := ?_) rfl (by kernel_rfl) (by kernel_rfl) (by kernel_rfl) (fun _ _ _ h => h) (Or.inl ⟨by rfl, ?_⟩) (by assumption) ?_
        rotate_left
        · intro Wq hSw
          clear hSw
          go_simp
          all_goals (with_reducible rfl)
        try simp only [Act.put, List.getElem_toArray, List.getElem_cons_succ, List.getElem_cons_zero, List.setIfInBounds_toArray, List.set_cons_zero, List.set_cons_succ]
        refine wpAnyH_take (i := 26) (v := ?_) rfl (by kernel_rfl) (by kernel_rfl) (by kernel_rfl) (fun _ _ _ h => h) (Or.inl ⟨by rfl, ?_⟩) (by assumption) ?_
        rotate_left
        · intro Wq hSw
          clear hSw
          go_simp
          all_goals (with_reducible rfl)
        try simp only [Act.put, List.getElem_toArray, List.getElem_cons_succ, List.getElem_cons_zero, List.setIfInBounds_toArray, List.set_cons_zero, List.set_cons_succ]
        refine wpAnyH_take (i := 27) (v := ?_) rfl (by kernel_rfl) (by kernel_rfl) (by kernel_rfl) (fun _ _ _ h => h) (Or.inl ⟨by rfl, ?_⟩) (by assumption) ?_
        rotate_left
        · intro Wq hSw
          clear hSw
          go_simp
          all_goals (with_reducible rfl)
        try simp only [Act.put, List.getElem_toArray, List.getElem_cons_succ, List.getElem_cons_zero, List.setIfInBounds_toArray, List.set_cons_zero, List.set_cons_succ]
        refine r1 (i := 28) rfl (fun K hK => ?_)
        go_simp
        (with_reducible refine (KN.out _).mono ?_)
        rintro e wz ⟨rfl, hb1⟩
        go_wp2_with fail
        refine hK.out _ _ (bl_trans hHeld hb1) (fun hHeld2 => ?_)
        clear hK K hHeld
        have hHeld := hHeld2
        clear hHeld2
        try simp only [Act.put, List.getElem_toArray, List.getElem_cons_succ, List.getElem_cons_zero, List.setIfInBounds_toArray, List.set_cons_zero, List.set_cons_succ]
        refine wpAnyH_take (i := 29) (v := ?_) rfl (by kernel_rfl) (by kernel_rfl) (by kernel_rfl) (fun _ _ _ h => h) (Or.inl ⟨by rfl, ?_⟩) (by assumption) ?_
        rotate_left
        · intro Wq hSw
          clear hSw
          go_simp
          all_goals (with_reducible rfl)
        try simp only [Act.put, List.getElem_toArray, List.getElem_cons_succ, List.getElem_cons_zero, List.setIfInBounds_toArray, List.set_cons_zero, List.set_cons_succ]
        refine wpAnyH_take (i := 30) (v := ?_) rfl (by kernel_rfl) (by kernel_rfl) (by kernel_rfl) (fun _ _ _ h => h) (Or.inl ⟨by rfl, ?_⟩) (by assumption) ?_
        rotate_left
        · intro Wq hSw
          clear hSw
          go_simp
          all_goals (with_reducible rfl)
        try simp only [Act.put, List.getElem_toArray, List.getElem_cons_succ, List.getElem_cons_zero, List.setIfInBounds_toArray, List.set_cons_zero, List.set_cons_succ]
        refine wpAnyH_done (by kernel_rfl) ?_ _
        go_wp2_with fail
        go_ret
        exact ⟨rfl, bl_trans HB.out hHeld⟩
      · have q1 : ((i : Int) < (B.length : Int)) = True := eq_true (by omega)
        have q1' : (i < B.length) = True := eq_true h
        have q2 : ((i : Int) < 60) = False := eq_false (by omega)
        have q2' : (i < 60) = False := eq_false h'
        go_upto_region 12 with (fail)
        clear q1 q1' q2 q2' h h' hi hi60 hLi
        by_cases h3 : L.length < 3
        · have b1 : ((L.length : Int) < 3) = True := eq_true (by omega)
          have b1' : (L.length < 3) = True := eq_true h3
          go_wp2_with fail
          (with_reducible refine (KN.out _).mono ?_); rintro e w1 ⟨rfl, hb1⟩
          go_wp2
          go_ret
          exact ⟨rfl, bl_trans HO0.out.hb hb1⟩
        have b1 : ((L.length : Int) < 3) = False := eq_false (by omega)
        have b1' : (L.length < 3) = False := eq_false h3
        have ROW : Hid (Row 256 L) := ⟨HND.out, fun r h => by have := HIN.out r h; omega, by omega⟩
        have hIL : IntRow wr aL L := by
          obtain ⟨a, c, e, -, h, -⟩ := HO0.out.slice
          cases e
          exact h
        have HSL : Hid (Calls Try.prog 23 #[.slice (some ⟨wr.heap.size, 0, none⟩) 1 1] (wr.alloc (.cells #[.slice aL L.length cL] 24)) fun e w' => ∃ v, e = .returned v ∧ Op 36 (wr.alloc (.cells #[.slice aL L.length cL] 24)) v (segsF [L]) w') :=
          segs_l [L] (some ⟨wr.heap.size, 0, none⟩) 1 _ (rowsAt_one wr aL L cL hIL hcL hnL _) (by simp) (by simp [total]; omega)
        have HB4 := Lib.hid (bl_trans HO0.out.hb (bl_one wr (.cells #[.slice aL L.length cL] 24)))
        clear hIL hnL hcL HND HIN HO0 HBR0
        go_wp2_with fail
        (with_reducible refine HSL.out.mono ?_); rintro e w4 ⟨v4, rfl, hO4⟩
        have hsf : segsF [L] = ringSegs L := by simp [segsF]
        rw [hsf] at hO4
        obtain ⟨Q, hQ1, hQ2⟩ := ROW.out.rings (by decide)
        have hSL := ringSegs_len L
        have HCUT : Hid (∀ k, k < L.length → ∀ s, pget (ringSegs L) k = s → ringsR (256 : Int) ((ringSegs L).take k ++ (ringSegs L).drop (k + 1)) = ([], min s.x s.y, 81)) := fun k hk s hs => ROW.out.cut (by decide) hk hs
        have HTW : Hid (∀ k, k < L.length → ringsR (256 : Int) (ringSegs L ++ [pget (ringSegs L) k]) = ([], (L.length : Int), 80)) := fun k hk => ROW.out.twice (by decide) hk
        replace hQ1 : ringsR (256 : Int) (ringSegs L) = ([Q], 0, 0) := hQ1
        generalize ringSegs L = S at *
        replace HB4 := Lib.hid (bl_trans HB4.out hO4.hb)
        obtain ⟨adS, cpS, rfl, hcS, hPS, hnS⟩ := hO4.slice
        have HPS := Lib.hid hPS
        have HR1 := Lib.hid (rings_at hQ1 adS cpS w4 hPS (by decide) (by omega))
        obtain ⟨gS, oS, rfl⟩ := hPS.some (by omega)
        obtain ⟨N, hN⟩ : ∃ N, L.length = N := ⟨_, rfl⟩
        rw [hN] at hSL hQ2 HCUT HTW h60 h3 b1 b1' ⊢
        simp only [hSL, List.length_cons, List.length_nil] at HR1 ⊢
        rw [hSL] at hcS
        clear hQ1 hsf hnS hPS hO4 HSL ROW hN b1 b1'
        go_wp2_with fail
        (with_reducible refine HR1.out.mono ?_); rintro e w5 ⟨a5, c5, rfl, hR5, -, -, hb5⟩
        obtain ⟨g5, o5, aq, cq, e5, hq, -, -, -⟩ := hR5 0 (Nat.lt_succ_self 0)
        cases e5
        simp only [List.getElem_cons_zero, Nat.add_zero] at hq
        rw [hQ2] at hq
        replace HB4 := Lib.hid (bl_trans HB4.out hb5)
        replace HPS := Lib.hid (HPS.out.below hb5)
        clear hR5 hb5 HR1 hQ2
        go_upto_region 20 with (fail)
        go_cut [13] (fun kv W => ∃ k : Nat, kv = .int .i64 k ∧ k < N ∧ w5 = W)
        case first =>
          have HN := Lib.hid h60
          have HN3 := Lib.hid h3
          have b3 : ((N : Int) = 0) = False := eq_false (by omega)
          have b4 : ((N : Int) == 0) = false := beq_eq_false_iff_ne.2 (by omega)
          have b5 : (N = 0) = False := eq_false (by omega)
          have HSL := Lib.hid hSL
          have hN1 : 0 < N := by omega
          clear h3 hq hSL
          go_wp2_with fail
          go_meet
          case rel =>
            obtain ⟨r, hr, e⟩ := u64modn cut N (by have := HN3.out; omega) (by have := HN.out; omega)
            exact ⟨r, by rw [e], hr, rfl⟩
        case rest =>
        obtain ⟨k, rfl, hk, rfl⟩ := hcut
        clear hq h3
        have hkS : k < S.length := by omega
        go_upto_region 22 with (fail)
        obtain ⟨w1, w3, w2, w4⟩ := wnum (i := k) (by omega)
        have c1 : ((0 : Int) ≤ (k : Int)) = True := eq_true (by omega)
        have c2 : ((k : Int) ≤ (N : Int)) = True := eq_true (by omega)
        have c3 : ((k : Int) ≤ (cpS : Int)) = True := eq_true (by omega)
        have d2 : (k ≤ N) = True := eq_true (by omega)
        have d3 : (k ≤ cpS) = True := eq_true (by omega)
        have d4 : (N ≤ cpS) = True := eq_true hcS
        go_cut [14] (fun xv W => Op 36 w5 xv (S.take k) W)
        case first =>
          go_wp2_with (at_builtin; refine app_pts rfl Try.underlying22 info_eseg _ _ rfl rfl (op_nil _ w5) rfl (L := S.take k) (by rw [List.length_take]; omega) (HPS.out.take k) (fun h => by cases h) ?x2 ?_)
          case x2 => simp; omega
          intro v1 w1 hO1
          go_wp2_with fail
          go_meet
          case rel => exact hO1
        case rest =>
        have HO := Lib.hid hcut
        clear hcut c1 c2 c3 d2 d3
        have c1 : ((0 : Int) ≤ (k : Int) + 1) = True := eq_true (by omega)
        have c2 : ((k : Int) + 1 ≤ (N : Int)) = True := eq_true (by omega)
        have c3 : ((k : Int) + 1 ≤ (cpS : Int)) = True := eq_true (by omega)
        have d2 : (k + 1 ≤ N) = True := eq_true (by omega)
        have d3 : (k + 1 ≤ cpS) = True := eq_true (by omega)
        go_upto_region 23 with (fail)
        go_cut [14] (fun xv W => Op 36 w5 xv (S.take k ++ S.drop (k + 1)) W)
        case first =>
          by_cases hck : cpS = k + 1
          · subst hck
            obtain rfl : N = k + 1 := by omega
            have e1 : S.drop (k + 1) = [] := List.drop_eq_nil_of_le (by omega)
            go_wp2_with (at_builtin; refine app_pts rfl Try.underlying22 info_eseg _ _ rfl rfl HO.out rfl (L := []) (by first | rfl | (simp; done) | (simp; omega)) (ptRow_nil _ _) (fun h => by cases h) (by rw [List.length_take]; simp; omega) ?_)
            intro v1 w1 hO1
            go_wp2_with fail
            go_meet
            case rel => rw [e1, List.append_nil]; exact hO1
          · have c4 : (cpS = k + 1) = False := eq_false hck
            have HLN : Hid ((S.take k).length + (S.drop (k + 1)).length ≤ 1000000) := (show (S.take k).length + (S.drop (k + 1)).length ≤ 1000000 by rw [List.length_take, List.length_drop]; omega)
            have HDL : Hid (N - (k + 1) = (S.drop (k + 1)).length) := (show N - (k + 1) = (S.drop (k + 1)).length by rw [List.length_drop, hSL])
            have HPD := Lib.hid (HPS.out.below HO.out.hb)
            clear hSL hcS h60 hkS hck
            go_wp2_with (at_builtin; refine app_pts rfl Try.underlying22 info_eseg _ _ rfl rfl HO.out rfl (L := S.drop (k + 1)) HDL.out (HPD.out.drop (k + 1) (fun g o h _ => by cases h; first | rfl | exact congrArg some (add_plain g o ((k + 1) * 2)))) (fun h => by cases h) HLN.out ?_)
            intro v1 w1 hO1
            go_wp2_with fail
            go_meet
            case rel => exact hO1
        case rest =>
        have HO1 := Lib.hid hcut
        clear hcut HO c1 c2 c3 d2 d3 d4 w1 w2 w3 w4
        obtain ⟨s, hs⟩ : ∃ s, pget S k = s := ⟨_, rfl⟩
        have hlc : (S.take k ++ S.drop (k + 1)).length ≤ 10000 := by rw [List.length_append, List.length_take, List.length_drop]; omega
        have hcu := HCUT.out k hk s hs
        have HLT : Hid ((S ++ [s]).length ≤ 1000000) := (show (S ++ [s]).length ≤ 1000000 by simp; omega)
        have htw := HTW.out k hk
        rw [hs] at htw
        have HTW2 := Lib.hid htw
        have HSK := Lib.hid hs
        clear hs htw HCUT HTW
        generalize S.take k ++ S.drop (k + 1) = M at *
        obtain ⟨adM, cpM, hvM, -, hPM, -⟩ := HO1.out.slice
        have HR2 := Lib.hid (rings_at hcu adM cpM wc hPM (by decide) hlc)
        replace HB4 := Lib.hid (bl_trans HB4.out HO1.out.hb)
        replace HPS := Lib.hid (HPS.out.below HO1.out.hb)
        subst hvM
        clear hcu hlc hPM HO1
        go_wp2_with fail
        (with_reducible refine HR2.out.mono ?_); rintro e w6 ⟨a6, c6, rfl, -, -, -, hb6⟩
        replace HB4 := Lib.hid (bl_trans HB4.out hb6)
        replace HPS := Lib.hid (HPS.out.below hb6)
        clear hb6 HR2
        go_upto_region 26 with (fail)
        go_cut [18] (fun xv W => Op 36 w6 xv S W)
        case first =>
          go_wp2_with (at_builtin; refine app_pts rfl Try.underlying22 info_eseg _ _ rfl rfl (op_nil _ w6) rfl (L := S) hSL.symm HPS.out (fun h => by cases h) (by simp; omega) ?_)
          intro v1 w1 hO1
          go_wp2_with fail
          go_meet
          case rel => exact hO1
        case rest =>
        have HO := Lib.hid hcut
        clear hcut
        obtain ⟨k0, k1⟩ := ptRow_at (HPS.out.below HO.out.hb) hkS HSK.out
        have c1 : ((0 : Int) ≤ (k : Int)) = True := eq_true (by omega)
        have c2 : ((k : Int) < (N : Int)) = True := eq_true (by omega)
        have d2 : (k < N) = True := eq_true hk
        obtain ⟨e0, hi0, hz0, hz1, hz2⟩ := info_parts info_eseg
        go_upto_region 27 with (fail)
        go_cut [18] (fun xv W => Op 36 w6 xv (S ++ [s]) W)
        case first =>
          go_wp2_with (at_builtin; refine app_pts rfl Try.underlying22 info_eseg _ _ rfl rfl (HO.out.alloc _) rfl (L := [s]) rfl (ptRow_new _ s _) (fun h => by cases h) (by simp; omega) ?_)
          intro v1 w1 hO1
          go_wp2_with fail
          go_meet
          case rel => exact hO1
        case rest =>
        have HO1 := Lib.hid hcut
        clear hcut HO k0 k1 c1 c2 d2
        have hlc : (S ++ [s]).length ≤ 10000 := by simp; omega
        clear h60
        have htw := HTW2.out
        clear HLT HTW2
        generalize S ++ [s] = M2 at *
        obtain ⟨adM, cpM, hvM, -, hPM, -⟩ := HO1.out.slice
        have HR3 := Lib.hid (rings_at htw adM cpM wc hPM (by decide) hlc)
        replace HB4 := Lib.hid (bl_trans HB4.out HO1.out.hb)
        replace HPS := Lib.hid (HPS.out.below HO1.out.hb)
        subst hvM
        clear htw hlc hPM HO1 e0 hi0 hz0 hz1 hz2
        go_wp2_with fail
        (with_reducible refine HR3.out.mono ?_); rintro e w9 ⟨a9, c9, rfl, -, -, -, hb9⟩
        have HB := Lib.hid (bl_trans HB4.out hb9)
        replace HPS := Lib.hid (HPS.out.below hb9)
        clear hb9 HR3 HB4
        go_upto_region 29 with (fail)
        refine wp_region_held_drew (S := fun V => Below w9.heap.size w9 V) (by kernel_rfl) ?_ (fun hHeld => ?_)
        · exact bel_drew w9
        revert hHeld
        generalize World.drew _ = W1
        intro hHeld 
        refine wpAnyH_take (i := 0) (v := ?_) rfl (by kernel_rfl) (by kernel_rfl) (by kernel_rfl) (fun _ _ _ h => h) (Or.inl ⟨by rfl, ?_⟩) (by assumption) ?_
        rotate_left
        · intro Wq hSw
          clear hSw
          go_simp
          all_goals (with_reducible rfl)
        try simp only [Act.put, List.getElem_toArray, List.getElem_cons_zero, List.setIfInBounds_toArray, List.set_cons_zero, List.set_cons_succ]
        refine wpAnyH_take (i := 1) (v := ?_) rfl (by kernel_rfl) (by kernel_rfl) (by kernel_rfl) (fun _ _ _ h => h) (Or.inl ⟨by rfl, ?_⟩) (by assumption) ?_
        rotate_left
        · intro Wq hSw
          clear hSw
          go_simp
          all_goals (with_reducible rfl)
        try simp only [Act.put, List.getElem_toArray, List.getElem_cons_succ, List.getElem_cons_zero, List.setIfInBounds_toArray, List.set_cons_zero, List.set_cons_succ]
        refine wpAnyH_take (i := 2) (v := ?_) rfl (by kernel_rfl) (by kernel_rfl) (by kernel_rfl) (fun _ _ _ h => h) (Or.inl ⟨by rfl, ?_⟩) (by assumption) ?_
        rotate_left
        · intro Wq hSw
          clear hSw
          go_simp
          all_goals (with_reducible rfl)
        try simp only [Act.put, List.getElem_toArray, List.getElem_cons_succ, List.getElem_cons_zero, List.setIfInBounds_toArray, List.set_cons_zero, List.set_cons_succ]
        refine wpAnyH_take (i := 3) (v := ?_) rfl (by kernel_rfl) (by kernel_rfl) (by kernel_rfl) (fun _ _ _ h => h) (Or.inl ⟨by rfl, ?_⟩) (by assumption) ?_
        rotate_left
        · intro Wq hSw
          clear hSw
          go_simp
          all_goals (with_reducible rfl)
        try simp only [Act.put, List.getElem_toArray, List.getElem_cons_succ, List.getElem_cons_zero, List.setIfInBounds_toArray, List.set_cons_zero, List.set_cons_succ]
        refine wpAnyH_take (i := 4) (v := ?_) rfl (by kernel_rfl) (by kernel_rfl) (by kernel_rfl) (fun _ _ _ h => h) (Or.inl ⟨by rfl, ?_⟩) (by assumption) ?_
        rotate_left
        · intro Wq hSw
          clear hSw
          go_simp
          all_goals (with_reducible rfl)
        try simp only [Act.put, List.getElem_toArray, List.getElem_cons_succ, List.getElem_cons_zero, List.setIfInBounds_toArray, List.set_cons_zero, List.set_cons_succ]
        refine wpAnyH_take (i := 5) (v := ?_) rfl (by kernel_rfl) (by kernel_rfl) (by kernel_rfl) (fun _ _ _ h => h) (Or.inl ⟨by rfl, ?_⟩) (by assumption) ?_
        rotate_left
        · intro Wq hSw
          clear hSw
          go_simp
          all_goals (with_reducible rfl)
        try simp only [Act.put, List.getElem_toArray, List.getElem_cons_succ, List.getElem_cons_zero, List.setIfInBounds_toArray, List.set_cons_zero, List.set_cons_succ]
        refine wpAnyH_take (i := 6) (v := ?_) rfl (by kernel_rfl) (by kernel_rfl) (by kernel_rfl) (fun _ _ _ h => h) (Or.inl ⟨by rfl, ?_⟩) (by assumption) ?_
        rotate_left
        · intro Wq hSw
          have b1 : ((k : Int) < (N : Int)) = True := eq_true (by omega)
          have d1 : (k < N) = True := eq_true hk
          have c1 : ((0 : Int) ≤ (k : Int)) = True := eq_true (by omega)
          clear hSw
          go_simp
          all_goals (with_reducible rfl)
        try simp only [Act.put, List.getElem_toArray, List.getElem_cons_succ, List.getElem_cons_zero, List.setIfInBounds_toArray, List.set_cons_zero, List.set_cons_succ]
        refine wpAnyH_take (i := 7) (v := ?_) rfl (by kernel_rfl) (by kernel_rfl) (by kernel_rfl) (fun _ _ _ h => h) (Or.inl ⟨by rfl, ?_⟩) (by assumption) ?_
        rotate_left
        · intro Wq hSw
          clear hSw
          go_simp
          all_goals (with_reducible rfl)
        try simp only [Act.put, List.getElem_toArray, List.getElem_cons_succ, List.getElem_cons_zero, List.setIfInBounds_toArray, List.set_cons_zero, List.set_cons_succ]
        refine wpAnyH_take (i := 8) (v := ?_) rfl (by kernel_rfl) (by kernel_rfl) (by kernel_rfl) (fun _ _ _ h => h) (Or.inl ⟨by rfl, ?_⟩) (by assumption) ?_
        rotate_left
        · intro Wq hSw
          obtain ⟨k0, k1⟩ := ptRow_at (HPS.out.below hSw) hkS HSK.out
          clear hSw
          go_simp
          all_goals (with_reducible rfl)
        try simp only [Act.put, List.getElem_toArray, List.getElem_cons_succ, List.getElem_cons_zero, List.setIfInBounds_toArray, List.set_cons_zero, List.set_cons_succ]
        refine wpAnyH_take (i := 9) (v := ?_) rfl (by kernel_rfl) (by kernel_rfl) (by kernel_rfl) (fun _ _ _ h => h) (Or.inl ⟨by rfl, ?_⟩) (by assumption) ?_
        rotate_left
        · intro Wq hSw
          clear hSw
          go_simp
          all_goals (with_reducible rfl)
        try simp only [Act.put, List.getElem_toArray, List.getElem_cons_succ, List.getElem_cons_zero, List.setIfInBounds_toArray, List.set_cons_zero, List.set_cons_succ]
        refine wpAnyH_take (i := 10) (v := ?_) rfl (by kernel_rfl) (by kernel_rfl) (by kernel_rfl) (fun _ _ _ h => h) (Or.inl ⟨by rfl, ?_⟩) (by assumption) ?_
        rotate_left
        · intro Wq hSw
          clear hSw
          go_simp
          all_goals (with_reducible rfl)
        try simp only [Act.put, List.getElem_toArray, List.getElem_cons_succ, List.getElem_cons_zero, List.setIfInBounds_toArray, List.set_cons_zero, List.set_cons_succ]
        refine wpAnyH_take (i := 11) (v := ?_) rfl (by kernel_rfl) (by kernel_rfl) (by kernel_rfl) (fun _ _ _ h => h) (Or.inl ⟨by rfl, ?_⟩) (by assumption) ?_
        rotate_left
        · intro Wq hSw
          have b1 : ((k : Int) < (N : Int)) = True := eq_true (by omega)
          have d1 : (k < N) = True := eq_true hk
          have c1 : ((0 : Int) ≤ (k : Int)) = True := eq_true (by omega)
          clear hSw
          go_simp
          all_goals (with_reducible rfl)
        try simp only [Act.put, List.getElem_toArray, List.getElem_cons_succ, List.getElem_cons_zero, List.setIfInBounds_toArray, List.set_cons_zero, List.set_cons_succ]
        refine wpAnyH_take (i := 12) (v := ?_) rfl (by kernel_rfl) (by kernel_rfl) (by kernel_rfl) (fun _ _ _ h => h) (Or.inl ⟨by rfl, ?_⟩) (by assumption) ?_
        rotate_left
        · intro Wq hSw
          clear hSw
          go_simp
          all_goals (with_reducible rfl)
        try simp only [Act.put, List.getElem_toArray, List.getElem_cons_succ, List.getElem_cons_zero, List.setIfInBounds_toArray, List.set_cons_zero, List.set_cons_succ]
        refine wpAnyH_take (i := 13) (v := ?_) rfl (by kernel_rfl) (by kernel_rfl) (by kernel_rfl) (fun _ _ _ h => h) (Or.inl ⟨by rfl, ?_⟩) (by assumption) ?_
        rotate_left
        · intro Wq hSw
          obtain ⟨k0, k1⟩ := ptRow_at (HPS.out.below hSw) hkS HSK.out
          clear hSw
          go_simp
          all_goals (with_reducible rfl)
        try simp only [Act.put, List.getElem_toArray, List.getElem_cons_succ, List.getElem_cons_zero, List.setIfInBounds_toArray, List.set_cons_zero, List.set_cons_succ]
        refine wpAnyH_take (i := 14) (v := ?_) rfl (by kernel_rfl) (by kernel_rfl) (by kernel_rfl) (fun _ _ _ h => h) (Or.inl ⟨by rfl, ?_⟩) (by assumption) ?_
        rotate_left
        · intro Wq hSw
          clear hSw
          go_simp
          all_goals (with_reducible rfl)
        try simp only [Act.put, List.getElem_toArray, List.getElem_cons_succ, List.getElem_cons_zero, List.setIfInBounds_toArray, List.set_cons_zero, List.set_cons_succ]
        refine wpAnyH_take (i := 15) (v := ?_) rfl (by kernel_rfl) (by kernel_rfl) (by kernel_rfl) (fun _ _ _ h => h) (Or.inl ⟨by rfl, ?_⟩) (by assumption) ?_
        rotate_left
        · intro Wq hSw
          clear hSw
          go_simp
          all_goals (with_reducible rfl)
        try simp only [Act.put, List.getElem_toArray, List.getElem_cons_succ, List.getElem_cons_zero, List.setIfInBounds_toArray, List.set_cons_zero, List.set_cons_succ]
        refine wpAnyH_take (i := 16) (v := ?_) rfl (by kernel_rfl) (by kernel_rfl) (by kernel_rfl) (fun _ _ _ h => h) (Or.inl ⟨by rfl, ?_⟩) (by assumption) ?_
        rotate_left
        · intro Wq hSw
          clear hSw
          go_simp
          all_goals (with_reducible rfl)
        try simp only [Act.put, List.getElem_toArray, List.getElem_cons_succ, List.getElem_cons_zero, List.setIfInBounds_toArray, List.set_cons_zero, List.set_cons_succ]
        refine wpAnyH_take (i := 17) (v := ?_) rfl (by kernel_rfl) (by kernel_rfl) (by kernel_rfl) (fun _ _ _ h => h) (Or.inl ⟨by rfl, ?_⟩) (by assumption) ?_
        rotate_left
        · intro Wq hSw
          clear hSw
          go_simp
          all_goals (with_reducible rfl)
        try simp only [Act.put, List.getElem_toArray, List.getElem_cons_succ, List.getElem_cons_zero, List.setIfInBounds_toArray, List.set_cons_zero, List.set_cons_succ]
        refine wpAnyH_take (i := 18) (v := ?_) rfl (by kernel_rfl) (by kernel_rfl) (by kernel_rfl) (fun _ _ _ h => h) (Or.inl ⟨by rfl, ?_⟩) (by assumption) ?_
        rotate_left
        · intro Wq hSw
          clear hSw
          go_simp
          all_goals (with_reducible rfl)
        try simp only [Act.put, List.getElem_toArray, List.getElem_cons_succ, List.getElem_cons_zero, List.setIfInBounds_toArray, List.set_cons_zero, List.set_cons_succ]
        refine wpAnyH_take (i := 19) (v := ?_) rfl (by kernel_rfl) (by kernel_rfl) (by kernel_rfl) (fun _ _ _ h => h) (Or.inl ⟨by rfl, ?_⟩) (by assumption) ?_
        rotate_left
        · intro Wq hSw
          clear hSw
          go_simp
          all_goals (with_reducible rfl)
        try simp only [Act.put, List.getElem_toArray, List.getElem_cons_succ, List.getElem_cons_zero, List.setIfInBounds_toArray, List.set_cons_zero, List.set_cons_succ]
        refine wpAnyH_take (i := 20) (v := ?_) rfl (by kernel_rfl) (by kernel_rfl) (by kernel_rfl) (fun _ _ _ h => h) (Or.inl ⟨by rfl, ?_⟩) (by assumption) ?_
        rotate_left
        · intro Wq hSw
          clear hSw
          go_simp
          all_goals (with_reducible rfl)
        try simp only [Act.put, List.getElem_toArray, List.getElem_cons_succ, List.getElem_cons_zero, List.setIfInBounds_toArray, List.set_cons_zero, List.set_cons_succ]
        refine wpAnyH_take (i := 21) (v := ?_) rfl (by kernel_rfl) (by kernel_rfl) (by kernel_rfl) (fun _ _ _ h => h) (Or.inl ⟨by rfl, ?_⟩) (by assumption) ?_
        rotate_left
        · intro Wq hSw
          clear hSw
          go_simp
          all_goals (with_reducible rfl)
        try simp only [Act.put, List.getElem_toArray, List.getElem_cons_succ, List.getElem_cons_zero, List.setIfInBounds_toArray, List.set_cons_zero, List.set_cons_succ]
        refine wpAnyH_take (i := 22) (v := ?_) rfl (by kernel_rfl) (by kernel_rfl) (by kernel_rfl) (fun _ _ _ h => h) (Or.inl ⟨by rfl, ?_⟩) (by assumption) ?_
        rotate_left
        · intro Wq hSw
          clear hSw
          go_simp
          all_goals (with_reducible rfl)
        try simp only [Act.put, List.getElem_toArray, List.getElem_cons_succ, List.getElem_cons_zero, List.setIfInBounds_toArray, List.set_cons_zero, List.set_cons_succ]
        refine wpAnyH_take (i := 23) (v := ?_) rfl (by kernel_rfl) (by kernel_rfl) (by kernel_rfl) (fun _ _ _ h => h) (Or.inl ⟨by rfl, ?_⟩) (by assumption) ?_
        rotate_left
        · intro Wq hSw
          clear hSw
          go_simp
          all_goals (with_reducible rfl)
        try simp only [Act.put, List.getElem_toArray, List.getElem_cons_succ, List.getElem_cons_zero, List.setIfInBounds_toArray, List.set_cons_zero, List.set_cons_succ]
        refine wpAnyH_take (i := 24) (v := ?_) rfl (by kernel_rfl) (by kernel_rfl) (by kernel_rfl) (fun _ _ _ h => h) (Or.inl ⟨by rfl, ?_⟩) (by assumption) ?_
        rotate_left
        · intro Wq hSw
          clear hSw
          go_simp
          all_goals (with_reducible rfl)
        try simp only [Act.put, List.getElem_toArray, List.getElem_cons_succ, List.getElem_cons_zero, List.setIfInBounds_toArray, List.set_cons_zero, List.set_cons_succ]
        refine wpAnyH_take (i := 25) (v := ?_) rfl (by kernel_rfl) (by kernel_rfl) (by kernel_rfl) (fun _ _ _ h => h) (Or.inl ⟨by rfl, ?_⟩) (by assumption) ?_
        rotate_left
        · intro Wq hSw
          clear hSw
          go_simp
          all_goals (with_reducible rfl)
        try simp only [Act.put, List.getElem_toArray, List.getElem_cons_succ, List.getElem_cons_zero, List.setIfInBounds_toArray, List.set_cons_zero, List.set_cons_succ]
        refine wpAnyH_take (i := 26) (v := ?_) rfl (by kernel_rfl) (by kernel_rfl) (by kernel_rfl) (fun _ _ _ h => h) (Or.inl ⟨by rfl, ?_⟩) (by assumption) ?_
        rotate_left
        · intro Wq hSw
          clear hSw
          go_simp
          all_goals (with_reducible rfl)
        try simp only [Act.put, List.getElem_toArray, List.getElem_cons_succ, List.getElem_cons_zero, List.setIfInBounds_toArray, List.set_cons_zero, List.set_cons_succ]
        refine wpAnyH_take (i := 27) (v := ?_) rfl (by kernel_rfl) (by kernel_rfl) (by kernel_rfl) (fun _ _ _ h => h) (Or.inl ⟨by rfl, ?_⟩) (by assumption) ?_
        rotate_left
        · intro Wq hSw
          clear hSw
          go_simp
          all_goals (with_reducible rfl)
        try simp only [Act.put, List.getElem_toArray, List.getElem_cons_succ, List.getElem_cons_zero, List.setIfInBounds_toArray, List.set_cons_zero, List.set_cons_succ]
        refine r1 (i := 28) rfl (fun K hK => ?_)
        go_simp
        (with_reducible refine (KN.out _).mono ?_)
        rintro e wz ⟨rfl, hb1⟩
        go_wp2_with fail
        refine hK.out _ _ (bl_trans hHeld hb1) (fun hHeld2 => ?_)
        clear hK K hHeld
        have hHeld := hHeld2
        clear hHeld2
        try simp only [Act.put, List.getElem_toArray, List.getElem_cons_succ, List.getElem_cons_zero, List.setIfInBounds_toArray, List.set_cons_zero, List.set_cons_succ]
        refine wpAnyH_take (i := 29) (v := ?_) rfl (by kernel_rfl) (by kernel_rfl) (by kernel_rfl) (fun _ _ _ h => h) (Or.inl ⟨by rfl, ?_⟩) (by assumption) ?_
        rotate_left
        · intro Wq hSw
          clear hSw
          go_simp
          all_goals (with_reducible rfl)
        try simp only [Act.put, List.getElem_toArray, List.getElem_cons_succ, List.getElem_cons_zero, List.setIfInBounds_toArray, List.set_cons_zero, List.set_cons_succ]
        refine wpAnyH_take (i := 30) (v := ?_) rfl (by kernel_rfl) (by kernel_rfl) (by kernel_rfl) (fun _ _ _ h => h) (Or.inl ⟨by rfl, ?_⟩) (by assumption) ?_
        rotate_left
        · intro Wq hSw
          clear hSw
          go_simp
          all_goals (with_reducible rfl)
        try simp only [Act.put, List.getElem_toArray, List.getElem_cons_succ, List.getElem_cons_zero, List.setIfInBounds_toArray, List.set_cons_zero, List.set_cons_succ]
        refine wpAnyH_done (by kernel_rfl) ?_ _
        go_wp2_with fail
        go_ret
        exact ⟨rfl, bl_trans HB.out hHeld⟩
end Go.Proofs.Ytpockemjfbaheaa
