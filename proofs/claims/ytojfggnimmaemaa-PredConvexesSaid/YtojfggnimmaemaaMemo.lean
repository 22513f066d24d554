/-
  A region that draws its order: its states by name, so that each is walked once.
-/
import Derived.Test.YtojfggnimmaemaaVars
namespace Go.Proofs.Ytojfggnimmaemaa
open Go.RowKit
section
variable {P : Program} {md : Region.Mode} {S : World → Prop}
theorem wpAnyH_named {ops : Array Oper} {Q : Exit → Act → World → Prop} {n : Nat} {l : Array Bool} {a : Act} {w : World}
    (h : ∀ (ops0 : Array Oper) (Q0 : Exit → Act → World → Prop) (a0 : Act) (S0 : World → Prop), ops = ops0 → Q = Q0 → a = a0 → S = S0 → wpAnyH P md ops0 Q0 S0 n l a0 w) : wpAnyH P md ops Q S n l a w := h _ _ _ _ rfl rfl rfl rfl
theorem wpAnyH_as {ops : Array Oper} {Q : Exit → Act → World → Prop} {n n' : Nat} {l l' : Array Bool} {a a' : Act} {w : World}
    (h : wpAnyH P md ops Q S n' l' a' w) (ha : a = a') (hn : n = n') (hl : l = l') : wpAnyH P md ops Q S n l a w := by
  subst ha hn hl
  exact h
end
theorem Grew.far5 {w W : World} {n : Nat} {p q r s t : Addr} {a b c d e : Value} (_ : Grew w n (((((W.setCell p a).setCell q b).setCell r c).setCell s d).setCell t e)) {g : Nat} {vs : List Value} (h : Var W g vs) (hp : p.block ≠ g) (hq : q.block ≠ g) (hr : r.block ≠ g) (hs : s.block ≠ g) (ht : t.block ≠ g) :
    Var (((((W.setCell p a).setCell q b).setCell r c).setCell s d).setCell t e) g vs := ((((h.far hp a).far hq b).far hr c).far hs d).far ht e
end Go.Proofs.Ytojfggnimmaemaa
