/-
  Rows of rows beside another row that grows.
-/
import Derived.Test.YtpockemjfbaheaaRFAll
import Derived.Test.YtpockemjfbaheaaROrdMath
namespace Go.Proofs.Ytpockemjfbaheaa
open Go.RowKit

/-- a row of rows, the call's own, and none of its blocks is X -/
structure OrrX (B : Nat) (v : Value) (L : List (List Int)) (X : Option Nat) (W : World) : Prop where
  ex : ∃ vs : List Value, vs.length = L.length ∧ W.ownsRow B 24 1 v L.length vs ∧ ∀ i (h : i < L.length) (h' : i < vs.length), InRow B v.ownBlock W vs[i] L[i] ∧ InRow B X W vs[i] L[i]
  sep : ∀ g, X = some g → v.ownBlock ≠ some g
  sz : B ≤ W.heap.size
theorem orrX_nil (W : World) (B : Nat) (X : Option Nat) (h : B ≤ W.heap.size) : OrrX B (.slice none 0 0) [] X W := ⟨⟨[], rfl, World.ownsRow_nil _ _ _ _, fun _ h => absurd h (Nat.not_lt_zero _)⟩, fun _ _ e => (by cases e), h⟩
theorem OrrX.keep {B : Nat} {v : Value} {L : List (List Int)} {X : Option Nat} {W W' : World} (h : OrrX B v L X W) (hk : Keep B W W') : OrrX B v L X W' := by
  obtain ⟨vs, h1, h2, h3⟩ := h.ex
  exact ⟨⟨vs, h1, owns_keep h2 hk, fun i a b => ⟨(h3 i a b).1.keep hk, (h3 i a b).2.keep hk⟩⟩, h.sep, Nat.le_trans h.sz hk.size⟩
theorem OrrX.rows {B : Nat} {v : Value} {L : List (List Int)} {X : Option Nat} {W : World} (h : OrrX B v L X W) : IsRows W v L := by
  obtain ⟨vs, h1, h2, h3⟩ := h.ex
  exact (⟨⟨vs, h1, h2, fun i a b => (h3 i a b).1⟩, h.sz⟩ : Orr B v L W).rows
theorem OrrX.lt {B : Nat} {v : Value} {L : List (List Int)} {X : Option Nat} {W : World} (h : OrrX B v L X W) : ∀ k, v.ownBlock = some k → B ≤ k ∧ k < W.heap.size := by
  obtain ⟨vs, -, h2, -⟩ := h.ex
  exact h2.lt
theorem owns_grown {B : Nat} {e : TypeId} {n k : Nat} {v : Value} {vs : List Value} {W W' : World} {X : Option Nat} (h : W.ownsRow B e n v k vs) (hg : W.grownBy W' X) (hs : ∀ g, X = some g → v.ownBlock ≠ some g) : W'.ownsRow B e n v k vs := by
  refine ⟨h.1, ?_⟩
  rcases h.2 with h | ⟨g, cap, cur, rfl, hb0, hc, rest⟩
  · exact .inl h
  · refine .inr ⟨g, cap, cur, rfl, hb0, (hg.block g (Array.getElem?_eq_some_iff.1 hc).1 (fun e => ?_)).trans hc, rest⟩
    exact hs g e.symm rfl
theorem InRow.grown {B : Nat} {blk X : Option Nat} {W W' : World} {u : Value} {M : List Int} (h : InRow B blk W u M) (h2 : InRow B X W u M) (hg : W.grownBy W' X) : InRow B blk W' u M := by
  obtain ⟨ad, cap, e, k1, k2, k3, k4⟩ := h
  obtain ⟨ad', cap', e', -, -, -, k5⟩ := h2
  rw [e] at e'
  cases e'
  exact ⟨ad, cap, e, k1, k2.block fun h0 g o e => hg.block g (k4 h0 g o e).2.1 (k5 h0 g o e).2.2, k3, fun h0 g o e => ⟨(k4 h0 g o e).1, Nat.lt_of_lt_of_le (k4 h0 g o e).2.1 hg.size, (k4 h0 g o e).2.2⟩⟩
theorem InRow.fresh {B : Nat} {blk : Option Nat} {W W' : World} {u : Value} {M : List Int} {n : Nat} (h : InRow B blk W' u M) (h2 : InRow B blk W u M) (hn : W.heap.size ≤ n) : InRow B (some n) W' u M := by
  obtain ⟨ad, cap, e, k1, k2, k3, k4⟩ := h
  obtain ⟨ad', cap', e', -, -, -, k5⟩ := h2
  rw [e] at e'
  cases e'
  exact ⟨ad, cap, e, k1, k2, k3, fun h0 g o e => ⟨(k4 h0 g o e).1, (k4 h0 g o e).2.1, fun e2 => by have := (k5 h0 g o e).2.1; simp at e2; omega⟩⟩
/-- the other row has grown -/
theorem OrrX.other {B : Nat} {v : Value} {L : List (List Int)} {X X' : Option Nat} {W W' : World} (h : OrrX B v L X W) (hg : W.grownBy W' X) (hl : X' = X ∨ X' = some W.heap.size) : OrrX B v L X' W' := by
  obtain ⟨vs, h1, h2, h3⟩ := h.ex
  refine ⟨⟨vs, h1, owns_grown h2 hg h.sep, fun i a b => ⟨(h3 i a b).1.grown (h3 i a b).2 hg, ?_⟩⟩, ?_, Nat.le_trans h.sz hg.size⟩
  · have k := (h3 i a b).2.grown (h3 i a b).2 hg
    rcases hl with rfl | rfl
    · exact k
    · exact k.fresh (h3 i a b).2 (Nat.le_refl _)
  · rcases hl with rfl | rfl
    · exact h.sep
    · intro g e e2
      have := (h2.lt g e2).2
      simp at e
      omega
/-- one row more -/
theorem app_rowX {ops : Array Oper} {rest : List Oper} {o : Oper} {a : Act} {Q : Exit → Act → World → Prop} {W : World} {B : Nat} {L : List (List Int)} {M : List Int} {v u : Value} {X : Option Nat} {ad : Addr} {c : Nat} (hgd : o.guard = none) (s x : Operand)
    (ho : o.op = .call { callee := .builtin .append, args := #[s, x], argTypes := #[30, 30] }) (hs : a.eval s = v) (hO : OrrX B v L X W) (hx : a.eval x = .slice (some ad) 1 c) (hc : ∀ j y, [u][j]? = some y → W.cell? (ad.add j) = some y)
    (hu : InRow B v.ownBlock W u M) (hu2 : InRow B X W u M) (hX : ∀ g, X = some g → g < W.heap.size) (hlen : L.length ≤ 1000000) (h : ∀ v' W', OrrX B v' (L ++ [M]) X W' → W.grownBy W' v.ownBlock → wpList Try.prog ops Q rest (a.put o.dst v') W') : wpList Try.prog ops Q (o :: rest) a W := by
  obtain ⟨e0, hi0, hz0, hz1, hz2⟩ := info_parts info_rows
  obtain ⟨vs, h1, h2, h3⟩ := hO.ex
  have hu3 := hu
  obtain ⟨adu, capu, rfl, u1, u2, u3, u4⟩ := hu3
  refine wpList_append_own_at W hgd s x 30 ho B 24 e0 (.slice none 0 0) 1 24 Try.underlying30 hi0 hz0 hz1 hz2 rfl (by decide) v L.length vs hs h2 ad 1 c [.slice adu M.length capu] hx rfl hc (by simp [Value.oneCell']) (by unfold maxLen; omega) (by omega) hO.sz fun v' W' hown hg hnil hloc => h v' W' ?_ hg
  have key : ∀ {u' : Value} {M' : List Int}, InRow B v.ownBlock W u' M' → InRow B v'.ownBlock W' u' M' := fun {u' M'} k => by
    have k2 := k.grown k hg
    rcases hloc with e' | e'
    · rw [e']; exact k2
    · rw [e']; exact k2.fresh k (Nat.le_refl _)
  refine ⟨⟨vs ++ [.slice adu M.length capu], by simp [h1], by simpa using hown, ?_⟩, ?_, Nat.le_trans hO.sz hg.size⟩
  · intro i hi hi'
    rcases Nat.lt_or_ge i L.length with hl | hl
    · rw [List.getElem_append_left (by omega), List.getElem_append_left hl]
      exact ⟨key (h3 i hl (by omega)).1, (h3 i hl (by omega)).2.grown (h3 i hl (by omega)).1 hg⟩
    · have e1 : i = L.length := by simp at hi; omega
      subst e1
      rw [List.getElem_append_right (by omega), List.getElem_append_right (by omega)]
      simp only [h1, Nat.sub_self, List.getElem_cons_zero]
      exact ⟨key hu, hu2.grown hu hg⟩
  · intro g e e2
    rcases hloc with e' | e'
    · rw [e'] at e2; exact hO.sep g e e2
    · rw [e'] at e2
      have := hX g e
      simp at e2
      omega
/-- numbers appended to a row of the call's own: where it lies then -/
theorem app_ints_at {ops : Array Oper} {rest : List Oper} {o : Oper} {a : Act} {Q : Exit → Act → World → Prop} {w W : World} {D L : List Int} {v : Value} {g k m c : Nat} (hgd : o.guard = none) (s x : Operand)
    (ho : o.op = .call { callee := .builtin .append, args := #[s, x], argTypes := #[24, 24] }) (hs : a.eval s = v) (hO : Oi w v D W) (hx : a.eval x = .slice (some ⟨g, k, none⟩) m c) (hm : m = L.length) (hL : IntRow W (some ⟨g, k, none⟩) L)
    (hlen : D.length + L.length ≤ 1000000) (h : ∀ v' W', Oi w v' (D ++ L) W' → W.grownBy W' v.ownBlock → (v'.ownBlock = v.ownBlock ∨ v'.ownBlock = some W.heap.size) → wpList Try.prog ops Q rest (a.put o.dst v') W') : wpList Try.prog ops Q (o :: rest) a W := by
  obtain ⟨e0, hi0, hz0, hz1, hz2⟩ := info_parts info_int
  subst hm
  refine wpList_append_own_at W hgd s x 24 ho w.heap.size 3 e0 (.int .i64 0) 1 8 Try.underlying24 hi0 hz0 hz1 hz2 rfl (by decide) v _ _ hs hO.own _ _ c (iv L) hx (iv_len _) (iv_cells hL) (iv_one _) (by unfold maxLen; omega) (by omega) hO.sz fun v' W' ho hg _ hloc => h v' W' ?_ hg hloc
  exact hO.more (by simp) ho hg
theorem Oi.other {w W W' : World} {v : Value} {L : List Int} {X : Option Nat} (h : Oi w v L W) (hg : W.grownBy W' X) (hs : ∀ g, X = some g → v.ownBlock ≠ some g) (hX : ∀ k, X = some k → w.heap.size ≤ k) : Oi w v L W' :=
  ⟨owns_grown h.own hg hs, h.hb.grown hg h.sz hX, Nat.le_trans h.sz hg.size⟩
/-- is a place in one of the rings? -/
theorem flat_in (L : List (List Int)) (x : Int) : L.flatten.contains x = L.any fun r => r.contains x := by
  induction L with
  | nil => rfl
  | cons R L ih =>
    rw [List.flatten_cons, List.any_cons, ← ih]
    by_cases h1 : x ∈ R <;> by_cases h2 : x ∈ L.flatten <;> simp [h1, h2]
theorem flat_len {K : Int → Pt} {n : Nat} (N : Net K (n : Int)) : ∀ m, m ≤ n → (ringsTo K n m).flatten.length ≤ m * n
  | 0, _ => by simp [ringsTo]
  | m + 1, hm => by
    have ih := flat_len N m (by omega)
    have e : (m + 1) * n = m * n + n := Nat.succ_mul m n
    rw [ringsTo]
    split
    · omega
    · next hc =>
      rw [List.flatten_append, List.length_append]
      have := ring_len N (f := (m : Int)) (by omega) (by omega) (fun e2 => hc (by rw [decide_eq_true e2]; simp))
      simp only [List.flatten_cons, List.flatten_nil, List.append_nil]
      omega
end Go.Proofs.Ytpockemjfbaheaa
