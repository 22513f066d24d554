/-
  The document's digit changes nothing at all.
-/
import Derived.Test.YtojfggnimmaemaaRefNum
import Derived.BigQuiet
namespace Go.Proofs.Ytojfggnimmaemaa
open Go.RowKit

set_option maxHeartbeats 1000000 in
set_option maxRecDepth 100000 in
theorem digit_in' (g c n i : Nat) (x : Int) (hi : i < n) (w : World) (hcell : w.cell? ⟨g, i, none⟩ = some (.int .i64 x)) :
    Calls Try.prog 75 #[.slice (some ⟨g, 0, none⟩) n c, .int .i64 i] w fun e w' => e = .returned (.int .i64 x) ∧ w' = w := by
  have h1 : decide ((i : Int) < (n : Int)) = true := by simp; omega
  go_enter Try.func75, Try.ntmps75
  go_wp2
  go_ret
  exact ⟨rfl, rfl⟩
set_option maxHeartbeats 1000000 in
set_option maxRecDepth 100000 in
theorem digit_out' (ad : Option Addr) (c n i : Nat) (hi : n ≤ i) (w : World) :
    Calls Try.prog 75 #[.slice ad n c, .int .i64 i] w fun e w' => e = .returned (.int .i64 0) ∧ w' = w := by
  have h1 : decide ((i : Int) < (n : Int)) = false := by simp; omega
  go_enter Try.func75, Try.ntmps75
  go_wp2
  go_ret
  exact ⟨rfl, rfl⟩
theorem DigAt.drewN {W : World} {ad : Option Addr} {n cap : Nat} {f : Nat → Int} (h : DigAt W ad n cap f) (k : Nat) : DigAt (W.drewN k) ad n cap f := h.below (below_drewN' (Below.refl _ _) k)
theorem digit_same {W : World} {ad : Option Addr} {n c : Nat} {f : Nat → Int} (d1 : DigAt W ad n c f) (i k : Nat) :
    Calls Try.prog 75 #[.slice ad n c, .int .i64 i] (W.drewN k) fun e w' => e = .returned (.int .i64 (f i)) ∧ ∃ m, w' = W.drewN m := by
  refine Calls.quiet_of_same ?_
  have d2 := d1.drewN k
  rcases Nat.lt_or_ge i n with h | h
  · rcases d2.mem with h0 | ⟨g, rfl, a1, a2, a3, a4⟩
    · omega
    · exact digit_in' g c n i (f i) h _ (a4.out i h)
  · rw [d2.hi i h]; exact digit_out' ad c n i h _
end Go.Proofs.Ytojfggnimmaemaa
