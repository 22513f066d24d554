/-
  The document's reading of options' words.
-/
import Derived.Test.YtdpbmkfgolemjaaDoorOpRds
import Derived.Test.YtdpbmkfgolemjaaDoorRefAll
import Derived.Test.YtdpbmkfgolemjaaDoorRefNumW
set_option linter.unusedVariables false
set_option linter.unusedSimpArgs false
set_option linter.deprecated false
namespace Go.Proofs.YtdpbmkfgolemjaaDoor
open Go.RowKit Go.Maps

theorem refAll_w6 (ad : Option Addr) (cap : Nat) (s : ByteArray) (hl : s.size ≤ 1048576) (hcap : s.size ≤ cap) (w : World) (hB : BytesIn w ad s) :
    Calls Tryd.prog 20 #[.slice ad s.size cap] w fun e W' => ∃ ad' cp, e = .returned (.tuple #[.slice ad' (wordsOf s).length cp, .int .i64 0]) ∧ TokCells W' ad' (wordsOf s) ∧ (∀ g o, ad' = some ⟨g, o, none⟩ → w.heap.size ≤ g) ∧ Below w.heap.size w W' := by
  refine (refAll_c ad cap s hl hcap w hB).mono ?_
  rintro e W' ⟨v, rfl, hT⟩
  have hr := hT.own
  have hlen : (wordsOf s).length = (toks (nums s)).length := by simp [wordsOf]
  rw [hlen]
  rcases hr.2 with ⟨rfl, h0⟩ | ⟨g, cp, cur, rfl, h1, -⟩
  · rw [h0]
    refine ⟨none, 0, rfl, fun i hi => ?_, fun g o e => (by cases e), hT.hb⟩
    rw [hlen, h0] at hi
    omega
  · refine ⟨_, cp, rfl, fun i hi => ?_, fun g' o' e => (by cases e; exact h1), hT.hb⟩
    have hi' : i < (toks (nums s)).length := by rw [← hlen]; exact hi
    obtain ⟨e1, e2⟩ := tokVals_get s (toks (nums s)) i hi'
    refine ⟨g, 0, rfl, ?_, ?_⟩
    · rw [Nat.zero_add, hr.cellAt (i * 2) (by omega), e1]
      simp [wordsOf]
    · rw [Nat.zero_add, hr.cellAt (i * 2 + 1) (by omega), e2]
      simp [wordsOf]
theorem tok_far6 {W : World} {g o : Nat} {L : List (Nat × ByteArray)} (h : TokCells W (some ⟨g, o, none⟩) L) {p : Addr} (hp : p.block ≠ g) (u : Value) : TokCells (W.setCell p u) (some ⟨g, o, none⟩) L := by
  intro i hi
  obtain ⟨g', o', e, h1, h2⟩ := h i hi
  cases e
  exact ⟨g, o, rfl, (World.cell?_setCell_far _ _ _ _ hp).trans h1, (World.cell?_setCell_far _ _ _ _ hp).trans h2⟩
/-- the variables of the document's loop -/
structure OpT (w : World) (gr gn go : Nat) (m b : Int) (r : Bool) (W : World) : Prop where
  hb : Below w.heap.size w W
  res : Var W gr [.int .i64 0, .int .i64 0, .bool false]
  non : Var W gn [.int .i64 0, .int .i64 0, .bool false]
  opt : Var W go [.int .i64 m, .int .i64 b, .bool r]
theorem OpT.turn {w : World} {gr gn go : Nat} {m b : Int} {r : Bool} {W W' : World} (h : OpT w gr gn go m b r W) (hb : Below W.heap.size W W') : OpT w gr gn go m b r W' := ⟨bl_trans h.hb hb, h.res.below hb, h.non.below hb, h.opt.below hb⟩
theorem steps_next6 {en m : Int} {ts : List (Nat × ByteArray)} {i : Nat} {b : Int} {r : Bool} {R : OpR6} (hi : i < ts.length) (hs : nums ts[i].2 = wBud6) (hR : steps6 en m ((tz6 ts).drop i) b false r = R) :
    (i + 1 = ts.length → R = bad6 en 11) ∧ ∀ h : i + 1 < ts.length, ((budZ6 (nums ts[i + 1].2)).2 ≠ 0 → R = bad6 ts[i + 1].1 (budZ6 (nums ts[i + 1].2)).2) ∧ ((budZ6 (nums ts[i + 1].2)).2 = 0 → steps6 en m ((tz6 ts).drop (i + 2)) (budZ6 (nums ts[i + 1].2)).1 true r = R) := by
  rw [tz_drop6 hi] at hR
  constructor
  · intro he
    rw [he, tz_end6, steps_end6 (x := ((ts[i].1 : Int), nums ts[i].2)) hs] at hR
    exact hR.symm
  · intro h
    rw [tz_drop6 h, steps_bud6 (x := ((ts[i].1 : Int), nums ts[i].2)) hs] at hR
    exact ⟨fun hn => by rw [if_neg hn] at hR; exact hR.symm, fun hz => by rw [if_pos hz] at hR; exact hR⟩
/-- the document's bound, case by case -/
theorem bud_f6 {t : List Int} {v er n e' : Int} (h : NumSpec t 9223372036854775807 v er) (hn : budZ6 t = (n, e')) :
    (er = 0 ∧ ¬ v < 0 ∧ ¬ 100 < v ∧ e' = 0 ∧ v = n) ∨ (er = 0 ∧ v < 0 ∧ e' = 10) ∨ (er = 0 ∧ ¬ v < 0 ∧ 100 < v ∧ e' = 10) ∨ (er = 10 ∧ e' = 10) ∨ (er = 11 ∧ e' = 11) := by
  rcases bud_doc6 h with ⟨h1, h2, h3, h4⟩ | ⟨h1, h2, h4⟩ | ⟨h1, h2, h4⟩
  · rw [hn] at h4
    injection h4 with e1 e2
    exact .inl ⟨h1, by omega, by omega, e2, e1.symm⟩
  · rw [hn] at h4
    injection h4 with e1 e2
    by_cases hv : v < 0
    · exact .inr (.inl ⟨h1, hv, e2⟩)
    · exact .inr (.inr (.inl ⟨h1, hv, by omega, e2⟩))
  · rw [hn] at h4
    injection h4 with e1 e2
    rcases h1 with rfl | rfl
    · exact .inr (.inr (.inr (.inl ⟨rfl, e2⟩)))
    · exact .inr (.inr (.inr (.inr ⟨rfl, e2⟩)))
end Go.Proofs.YtdpbmkfgolemjaaDoor
