/-
  The first two segments that meet otherwise than they may: plain facts.
-/
import Derived.Test.YtpjaefcmaiimlaaGreatGeoMath
import Derived.OwnWalk
import Derived.Deep.DeepCutAuto
import Derived.Test.YtpjaefcmaiimlaaGreatMeetAll
set_option linter.unusedVariables false
set_option linter.unusedSimpArgs false
set_option linter.deprecated false
namespace Go.Proofs.YtpjaefcmaiimlaaGreat

structure Sg where
  a : Pt
  b : Pt
def sget (l : List Sg) (i : Nat) : Sg := l.getD i ⟨⟨0, 0⟩, ⟨0, 0⟩⟩
def badB (s t : Sg) : Bool := decide (1 < segsN s.a s.b t.a t.b)
def okB (s : Sg) : Bool := properB s.a s.b
/-- the first two of n for which p holds, or none -/
def FirstP (n : Nat) (p : Nat → Nat → Bool) (x y : Nat) (is : Bool) : Prop :=
  (is = true ∧ x < y ∧ y < n ∧ p x y = true ∧ ∀ a b, a < b → b < n → (a < x ∨ a = x ∧ b < y) → p a b = false) ∨ (is = false ∧ x = 0 ∧ y = 0 ∧ ∀ a b, a < b → b < n → p a b = false)
/-- what is answered -/
def FirstR (l : List Sg) (x y : Nat) (is : Bool) : Prop :=
  (l.all okB = true ∧ FirstP l.length (fun i k => badB (sget l i) (sget l k)) x y is) ∨ (l.all okB = false ∧ x = 0 ∧ y = 0 ∧ is = false)
theorem common_vals (a b c d : Pt) : commonZ a b c d = 0 ∨ commonZ a b c d = 1 ∨ (1 < commonZ a b c d ∧ commonZ a b c d ≤ 4) := by
  unfold commonZ
  have h : alongZ a b c d = 4 ∨ alongZ a b c d = 1 := by
    unfold alongZ
    split
    · exact .inl rfl
    · split
      · exact .inl rfl
      · exact .inr rfl
  split
  · exact .inl rfl
  · unfold sidesZ
    generalize alongZ a b c d = z at *
    repeat' split
    all_goals omega
theorem bad_proper {s t : Sg} (h1 : okB s = true) (h2 : okB t = true) : badB s t = (!(decide (commonZ s.a s.b t.a t.b = 0)) && !(decide (commonZ s.a s.b t.a t.b = 1))) := by
  unfold okB at h1 h2
  unfold badB segsN
  rw [h1, h2]
  simp only [Bool.and_self, if_true]
  rcases common_vals s.a s.b t.a t.b with h | h | ⟨h, h'⟩
  · rw [h]; decide
  · rw [h]; decide
  · rw [decide_eq_true h, decide_eq_false (by omega), decide_eq_false (by omega)]; rfl
theorem sget_mem {l : List Sg} {i : Nat} (h : i < l.length) : sget l i ∈ l := by
  unfold sget
  rw [List.getD_eq_getElem?_getD, List.getElem?_eq_getElem h]
  exact List.getElem_mem h
theorem all_ok {l : List Sg} (h : ∀ i, i < l.length → okB (sget l i) = true) : l.all okB = true := by
  rw [List.all_eq_true]
  intro s hs
  obtain ⟨i, hi, rfl⟩ := List.mem_iff_getElem.1 hs
  have := h i hi
  unfold sget at this
  rw [List.getD_eq_getElem?_getD, List.getElem?_eq_getElem hi] at this
  exact this
theorem ok_at {l : List Sg} (h : l.all okB = true) {i : Nat} (hi : i < l.length) : okB (sget l i) = true := List.all_eq_true.1 h _ (sget_mem hi)
theorem not_ok {l : List Sg} {i : Nat} (hi : i < l.length) (h : okB (sget l i) = false) : l.all okB = false := by
  cases hh : l.all okB
  · rfl
  · rw [ok_at hh hi] at h; cases h
end Go.Proofs.YtpjaefcmaiimlaaGreat

/-
  Contract of meet.First.
-/
namespace Go.Proofs.YtpjaefcmaiimlaaGreat
open Go.RowKit

def SgsAt (W : World) (g o : Nat) (l : List Sg) : Prop := ∀ i, i < l.length → W.cell? ⟨g, o + i * 4, none⟩ = some (.int .i64 (sget l i).a.x) ∧ W.cell? ⟨g, o + i * 4 + 1, none⟩ = some (.int .i64 (sget l i).a.y) ∧ W.cell? ⟨g, o + i * 4 + 2, none⟩ = some (.int .i64 (sget l i).b.x) ∧ W.cell? ⟨g, o + i * 4 + 3, none⟩ = some (.int .i64 (sget l i).b.y)
theorem SgsAt.below {W W' : World} {g o : Nat} {l : List Sg} (h : SgsAt W g o l) (hb : Below W.heap.size W W') : SgsAt W' g o l := fun i hi => by
  obtain ⟨h0, h1, h2, h3⟩ := h i hi
  have hl := cell_lt h0
  exact ⟨(hb.cell (p := ⟨g, _, none⟩) hl).trans h0, (hb.cell (p := ⟨g, _, none⟩) hl).trans h1, (hb.cell (p := ⟨g, _, none⟩) hl).trans h2, (hb.cell (p := ⟨g, _, none⟩) hl).trans h3⟩
def sgVals (s : Sg) : List Value := [.int .i64 s.a.x, .int .i64 s.a.y, .int .i64 s.b.x, .int .i64 s.b.y]
def FirstG (l : List Sg) (w : World) (e : Ending) (W : World) : Prop := ∃ (x y : Nat) (is : Bool), e = .returned (.tuple #[.int .i64 x, .int .i64 y, .bool is]) ∧ FirstR l x y is ∧ Below w.heap.size w W
theorem num_facts {i n : Nat} (h : n ≤ 20000) (hi : i ≤ n) : wrap64 (i : Int) = (i : Int) ∧ IntKind.i64.wrap (i : Int) = (i : Int) ∧ wrap64 ((i : Int) + 1) = (i : Int) + 1 ∧ IntKind.i64.wrap ((i : Int) + 1) = (i : Int) + 1 ∧ (0 ≤ (i : Int)) = True ∧ (i : Int).toNat = i :=
  ⟨by unfold wrap64; omega, IntWalk.i64_in _ (by omega), by unfold wrap64; omega, IntWalk.i64_in _ (by omega), eq_true (by omega), by omega⟩
theorem first_nil (ad : Option Addr) (cap : Nat) (w : World) : Calls Tryz.prog 48 #[.slice ad 0 cap] w (FirstG [] w) := by
  go_enter Tryz.func48, Tryz.ntmps48
  go_wp2_with fail
  go_loopw [13] (fun iv W => iv = .int .i64 0 ∧ Grew w 0 W) (fun _ _ => 0)
  case atStart => exact ⟨rfl, by repeat (first | (with_reducible exact Below.refl _ _) | (with_reducible refine bl_alloc ?_ _) | (with_reducible refine Below.drew ?_) | (with_reducible refine below_drewN' ?_ _) | ((with_reducible refine bl_set ?_ ?_ _); (rotate_left; (dsimp only; omega)))), by simp⟩
  case round =>
    obtain ⟨rfl, hG⟩ := hrel
    have HG := Lib.hid hG
    clear hG
    go_wp2_with fail
    go_loopw [23] (fun iv W => iv = .int .i64 0 ∧ Grew w 0 W) (fun _ _ => 0)
    case atStart => exact ⟨rfl, HG.out⟩
    case round =>
      obtain ⟨rfl, hG⟩ := hrel
      have HG := Lib.hid hG
      clear hG
      go_wp2
      go_ret3
      exact ⟨0, 0, false, rfl, .inl ⟨rfl, .inr ⟨rfl, rfl, rfl, fun a b _ h => absurd h (by simp)⟩⟩, HG.out.hb⟩

set_option maxHeartbeats 8000000 in
set_option maxRecDepth 100000 in
theorem first_l (l : List Sg) (g o cap : Nat) (hn : l.length ≤ 20000) (w : World) (hl : SgsAt w g o l) : Calls Tryz.prog 48 #[.slice (some ⟨g, o, none⟩) l.length cap] w (FirstG l w) := by
  have HL := Lib.hid hl
  clear hl
  go_enter Tryz.func48, Tryz.ntmps48
  go_wp2_with fail
  go_loopw [13] (fun iv W => ∃ i : Nat, i ≤ l.length ∧ iv = .int .i64 i ∧ (∀ j, j < i → okB (sget l j) = true) ∧ Grew w 0 W) (fun iv _ => l.length - (intOf iv).toNat)
  case atStart => exact ⟨0, by omega, rfl, fun j hj => absurd hj (by omega), by repeat (first | (with_reducible exact Below.refl _ _) | (with_reducible refine bl_alloc ?_ _) | (with_reducible refine Below.drew ?_) | (with_reducible refine below_drewN' ?_ _) | ((with_reducible refine bl_set ?_ ?_ _); (rotate_left; (dsimp only; omega)))), by simp⟩
  case round =>
    obtain ⟨i, hi, rfl, hO, hG⟩ := hrel
    have HO := Lib.hid hO
    have HS0 : Hid ((fun W => SgsAt W g o l ∧ Grew w 0 W) _) := ⟨HL.out.below hG.hb, hG⟩
    clear hO hG
    by_cases hlt : i < l.length
    · have b4 : ((i : Int) < (l.length : Int)) = True := by simp; omega
      obtain ⟨c0, c1, c2, c3⟩ := HS0.out.1 i hlt
      obtain ⟨s, hs⟩ : ∃ s, sget l i = s := ⟨_, rfl⟩
      rw [hs] at c0 c1 c2 c3
      have HSI := Lib.hid hs
      clear hs
      have CP := Lib.hid (fun W => proper_l s.a s.b W)
      have HB : Hid (properB s.a s.b = okB s) := rfl
      generalize properB s.a s.b = pb at *
      go_wp2_with fail
      (with_reducible refine (CP.out _).mono ?_); rintro e w1 ⟨rfl, hb1⟩
      replace HS0 : Hid ((fun W => SgsAt W g o l ∧ Grew w 0 W) w1) := ⟨(HS0.out.1.below (bl_one _ _)).below hb1, (HS0.out.2.below (bl_one _ _)).below hb1⟩
      clear hb1 c0 c1 c2 c3 CP
      cases pb
      · go_wp2_with fail
        go_ret3
        exact ⟨0, 0, false, rfl, .inr ⟨not_ok hlt (by rw [HSI.out, ← HB.out]), rfl, rfl, rfl⟩, HS0.out.2.hb⟩
      · go_wp2_with fail
        go_roundw
        case rel => exact ⟨i + 1, by omega, by go_num, fun j hj => (by
          rcases Nat.lt_or_ge j i with h | h
          · exact HO.out j h
          · obtain rfl : j = i := by omega
            rw [HSI.out, ← HB.out]), HS0.out.2⟩
        case measure => simp [intOf]; omega
    · obtain rfl : i = l.length := by omega
      have b4 : ((l.length : Int) < (l.length : Int)) = False := by simp
      have HA := Lib.hid (all_ok HO.out)
      clear HO
      go_wp2_with fail
      go_loopw [23] (fun iv W => ∃ i : Nat, i ≤ l.length ∧ iv = .int .i64 i ∧ (∀ a b, a < i → a < b → b < l.length → badB (sget l a) (sget l b) = false) ∧ Grew w 0 W) (fun iv _ => l.length - (intOf iv).toNat)
      case atStart => exact ⟨0, by omega, rfl, fun a b h => absurd h (by omega), HS0.out.2⟩
      case round =>
        obtain ⟨i, hi, rfl, hO, hG⟩ := hrel
        have HO := Lib.hid hO
        clear HS0
        have HS0 : Hid ((fun W => SgsAt W g o l ∧ Grew w 0 W) _) := ⟨HL.out.below hG.hb, hG⟩
        clear hO hG b4
        by_cases hlt : i < l.length
        · have b4 : ((i : Int) < (l.length : Int)) = True := by simp; omega
          obtain ⟨c0, c1, c2, c3⟩ := HS0.out.1 i hlt
          obtain ⟨s, hs⟩ : ∃ s, sget l i = s := ⟨_, rfl⟩
          rw [hs] at c0 c1 c2 c3
          have HSI := Lib.hid hs
          clear hs
          obtain ⟨m1, m2, m3, m4, m5, m6⟩ := num_facts hn hi
          clear m5 m6
          go_upto_region 10 with (fail)
          generalize hg8 : wr.heap.size = g8 at *
          refine wp_abs (fun W => SgsAt W g o l ∧ Var W g8 (sgVals s) ∧ Grew w 0 W) ?_ ?_
          · exact ⟨HS0.out.1.below (bl_one _ _), var4_new _ _ _ _ _ _ _ hg8.symm, HS0.out.2.below (bl_one _ _)⟩
          intro W2 hS2
          clear HS0 c0 c1 c2 c3 hg8
          have HS0 := Lib.hid hS2
          clear hS2
          go_wp2_with fail
          go_loopw [9] (fun kv W => ∃ k : Nat, i < k ∧ k ≤ l.length ∧ kv = .int .i64 k ∧ (∀ b, i < b → b < k → badB (sget l i) (sget l b) = false) ∧ SgsAt W g o l ∧ Var W g8 (sgVals s) ∧ Grew w 0 W) (fun kv _ => l.length - (intOf kv).toNat)
          case atStart => exact ⟨i + 1, by omega, by omega, by go_num, fun b h1 h2 => absurd h2 (by omega), HS0.out⟩
          case round =>
            obtain ⟨k, hk1, hk, rfl, hQ, hS⟩ := hrel
            have HQ := Lib.hid hQ
            clear HS0
            have HS0 : Hid ((fun W => SgsAt W g o l ∧ Var W g8 (sgVals s) ∧ Grew w 0 W) _) := hS
            clear hQ hS b4
            by_cases hk2 : k < l.length
            · have b4 : ((k : Int) < (l.length : Int)) = True := by simp; omega
              obtain ⟨t, ht⟩ : ∃ t, sget l k = t := ⟨_, rfl⟩
              have HT := Lib.hid ht
              have CC := Lib.hid (fun W => common_l s.a s.b t.a t.b W)
              have HZ := Lib.hid (show badB s t = (!(decide (commonZ s.a s.b t.a t.b = 0)) && !(decide (commonZ s.a s.b t.a t.b = 1))) from bad_proper (by rw [← HSI.out]; exact ok_at HA.out hlt) (by rw [← ht]; exact ok_at HA.out hk2))
              clear ht
              generalize commonZ s.a s.b t.a t.b = cz at *
              obtain ⟨n1, n2, n3, n4, n5, n6⟩ := num_facts hn hk
              clear m1 m2 m3 m4
              go_upto_region 13 with (fail)
              go_cut [10] (fun zv W => zv = .int .i64 cz ∧ (fun W => SgsAt W g o l ∧ Var W g8 (sgVals s) ∧ Grew w 0 W) W)
              case first =>
                clear HZ
                refine wp_region_held_drew (S := fun W => SgsAt W g o l ∧ Var W g8 (sgVals s) ∧ Grew w 0 W) (by kernel_rfl) ?_ (fun q1 => ?_)
                · exact ⟨HS0.out.1.below (bel_drew _), HS0.out.2.1.below (bel_drew _), HS0.out.2.2.below (bel_drew _)⟩
                revert q1
                generalize World.drew _ = W1
                intro q1
                refine tk (i := 0) (v := ?_) rfl (Or.inl ⟨by rfl, ?_⟩) ?_
                rotate_left
                · intro Wq hSw
                  obtain ⟨k0, k1, k2, k3⟩ := (id hSw).2.1.four
                  clear hSw
                  go_simp
                  all_goals (with_reducible rfl)
                try simp only [Act.put, x2, x4, x5, x6, x7]
                refine tk (i := 1) (v := ?_) rfl (Or.inl ⟨by rfl, ?_⟩) ?_
                rotate_left
                · intro Wq hSw
                  clear hSw
                  go_simp
                  all_goals (with_reducible rfl)
                try simp only [Act.put, x2, x3, x4, x5, x6, x7]
                refine tk (i := 2) (v := ?_) rfl (Or.inl ⟨by rfl, ?_⟩) ?_
                rotate_left
                · intro Wq hSw
                  clear hSw
                  go_simp
                  all_goals (with_reducible rfl)
                try simp only [Act.put, x2, x3, x4, x5, x6, x7]
                refine tk (i := 3) (v := ?_) rfl (Or.inl ⟨by rfl, ?_⟩) ?_
                rotate_left
                · intro Wq hSw
                  clear hSw
                  go_simp
                  all_goals (with_reducible rfl)
                try simp only [Act.put, x2, x3, x4, x5, x6, x7]
                refine tk (i := 4) (v := ?_) rfl (Or.inl ⟨by rfl, ?_⟩) ?_
                rotate_left
                · intro Wq hSw
                  obtain ⟨k0, k1, k2, k3⟩ := (id hSw).1 k hk2
                  rw [HT.out] at k0 k1 k2 k3
                  clear hSw
                  go_simp
                  all_goals (with_reducible rfl)
                try simp only [Act.put, x2, x3, x4, x5, x6, x7]
                refine r1 (i := 5) rfl (fun K hK => ?_)
                go_simp
                go_at_call 78
                (with_reducible refine (CC.out _).mono ?_); rintro e w1 ⟨rfl, hb1⟩
                go_wp2_with fail
                refine hK.out _ _ ?_ (fun q2 => ?_)
                · exact ⟨(id q1).1.below hb1, (id q1).2.1.below hb1, (id q1).2.2.below hb1⟩
                clear hK K q1
                have q1 := q2
                clear q2
                try simp only [Act.put, x2, x3, x4, x5, x6, x7]
                try clear hb1
                refine tk (i := 6) (v := ?_) rfl (Or.inl ⟨by rfl, ?_⟩) ?_
                rotate_left
                · intro Wq hSw
                  clear hSw
                  go_simp
                  all_goals (with_reducible rfl)
                try simp only [Act.put, x2, x3, x4, x5, x6, x7]
                refine wpAnyH_done (by kernel_rfl) ?_ _
                go_wp2_with fail
                go_meet
                case rel => exact ⟨rfl, id q1⟩
              case rest =>
              obtain ⟨rfl, hS⟩ := hcut
              clear HS0
              have HS0 := Lib.hid hS
              clear hS CC
              by_cases z0 : cz = 0
              · subst z0
                go_wp2_with fail
                go_roundw
                case rel => exact ⟨k + 1, by omega, by omega, by go_num, fun b h1 h2 => (by
                  rcases Nat.lt_or_ge b k with h | h
                  · exact HQ.out b h1 h
                  · obtain rfl : b = k := by omega
                    rw [HSI.out, HT.out, HZ.out]; rfl), HS0.out⟩
                case measure => simp [intOf]; omega
              · have d0 : decide (cz = 0) = false := decide_eq_false z0
                by_cases z1 : cz = 1
                · subst z1
                  clear z0 d0
                  go_wp2_with fail
                  go_roundw
                  case rel => exact ⟨k + 1, by omega, by omega, by go_num, fun b h1 h2 => (by
                    rcases Nat.lt_or_ge b k with h | h
                    · exact HQ.out b h1 h
                    · obtain rfl : b = k := by omega
                      rw [HSI.out, HT.out, HZ.out]; rfl), HS0.out⟩
                  case measure => simp [intOf]; omega
                · have q0 : (cz != 0) = true := by simp [z0]
                  have q1 : (cz != 1) = true := by simp [z1]
                  have HY : Hid (badB s t = true) := by unfold Hid; rw [HZ.out, d0, decide_eq_false z1]; rfl
                  clear z0 z1 d0 HZ
                  go_wp2_with fail
                  go_ret3
                  exact ⟨i, k, true, rfl, .inl ⟨HA.out, .inl ⟨rfl, hk1, hk2, by show badB (sget l i) (sget l k) = true; rw [HSI.out, HT.out]; exact HY.out, fun a b h1 h2 h3 => (by
                    rcases h3 with h3 | ⟨rfl, h3⟩
                    · exact HO.out a b h3 h1 h2
                    · exact HQ.out b h1 h3)⟩⟩, HS0.out.2.2.hb⟩
            · obtain rfl : k = l.length := by omega
              have b4 : ((l.length : Int) < (l.length : Int)) = False := by simp
              go_wp2_with fail
              go_roundw
              case rel => exact ⟨i + 1, by omega, by go_num, fun a b h1 h2 h3 => (by
                rcases Nat.lt_or_ge a i with h | h
                · exact HO.out a b h h2 h3
                · obtain rfl : a = i := by omega
                  exact HQ.out b h2 h3), HS0.out.2.2⟩
              case measure => simp [intOf]; omega
        · obtain rfl : i = l.length := by omega
          have b4 : ((l.length : Int) < (l.length : Int)) = False := by simp
          go_wp2_with fail
          go_ret3
          exact ⟨0, 0, false, rfl, .inl ⟨HA.out, .inr ⟨rfl, rfl, rfl, fun a b h1 h2 => HO.out a b (by omega) h1 h2⟩⟩, HS0.out.2.hb⟩
end Go.Proofs.YtpjaefcmaiimlaaGreat
