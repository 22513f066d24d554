/-
  The plain mathematics of layer 9: which segments lie to the right of a place; loops; mirrored, swapped, made greater.
-/
import Derived.Test.YtpjaefcmaiimlaaGreatGeoMath
set_option linter.unusedVariables false
set_option linter.unusedSimpArgs false
set_option linter.deprecated false
namespace Go.Proofs.YtpjaefcmaiimlaaGreat

/-- to the right of q: one end alone is higher, and there it lies farther right -/
def rightB (a b q:Pt):Bool:=(decide (q.y < a.y) != decide (q.y < b.y)) && decide (0 < (b.y - a.y) * crossZ a b q)
/-- is it so for one of the first n? -/
def anyN (f:Nat → Bool):Nat → Bool
 | 0=>false
 | n + 1=>anyN f n || f n
/-- for an odd number of the first n? -/
def xorN (f:Nat → Bool):Nat → Bool
 | 0=>false
 | n + 1=>anyX (xorN f n) (f n)
where anyX (a b:Bool):Bool:=a != b
theorem xorN_succ (f:Nat → Bool) (n:Nat):xorN f (n + 1)=(xorN f n != f n):=rfl
theorem anyN_no {f:Nat → Bool} {n:Nat}:anyN f n=false ↔ ∀ i,i < n → f i=false:=by
 induction n with
 | zero=>exact ⟨fun _ i h=>absurd h (Nat.not_lt_zero _),fun _=>rfl⟩
 | succ n ih=>
  rw [anyN,Bool.or_eq_false_iff,ih]
  constructor
  ·rintro ⟨h1,h2⟩ i hi
   rcases Nat.lt_or_eq_of_le (Nat.le_of_lt_succ hi) with h | rfl
   ·exact h1 i h
   ·exact h2
  ·intro h
   exact ⟨fun i hi=>h i (Nat.lt_succ_of_lt hi),h n (Nat.lt_succ_self n)⟩
theorem anyN_yes {f:Nat → Bool} {n:Nat} {i:Nat} (hi:i < n) (h:f i=true):anyN f n=true:=by
 cases e:anyN f n
 ·rw [anyN_no] at e
  rw [e i hi] at h;cases h
 ·rfl
theorem anyN_iff {f:Nat → Bool} {n:Nat}:anyN f n=true ↔ ∃ i,i < n∧f i=true:=by
 constructor
 ·intro h
  by_cases k:∃ i,i < n∧f i=true
  ·exact k
  ·have:anyN f n=false:=anyN_no.2 fun i hi=>by
    cases e:f i
    ·rfl
    ·exact absurd ⟨i,hi,e⟩ k
   rw [this] at h;cases h
 ·rintro ⟨i,hi,h⟩
  exact anyN_yes hi h
theorem anyN_congr {f g:Nat → Bool} {n:Nat} (h:∀ i,i < n → f i=g i):anyN f n=anyN g n:=by
 induction n with
 | zero=>rfl
 | succ n ih=>rw [anyN,anyN,ih fun i hi=>h i (Nat.lt_succ_of_lt hi),h n (Nat.lt_succ_self n)]
/-- where q lies among n segments -/
def whereN (n:Nat) (e:Nat → Pt × Pt) (q:Pt):Int:=
 if anyN (fun i=>onB (e i).1 (e i).2 q) n=true then 0 else if xorN (fun i=>rightB (e i).1 (e i).2 q) n=true then 1 else -1
/-- as the program tells it -/
theorem right_iff (a b q:Pt):rightB a b q=true ↔ ((q.y < a.y∧¬ q.y < b.y∧crossZ a b q < 0) ∨ (¬ q.y < a.y∧q.y < b.y∧0 < crossZ a b q)):=by
 unfold rightB
 have key:∀ d z:Int,(0 < d → (0 < d * z ↔ 0 < z))∧(d < 0 → (0 < d * z ↔ z < 0)):=fun d z=>by
  constructor
  ·intro hd
   rcases Int.lt_trichotomy z 0 with h | rfl | h
   ·have:=Int.mul_neg_of_pos_of_neg hd h;omega
   ·simp
   ·have:=Int.mul_pos hd h;omega
  ·intro hd
   rcases Int.lt_trichotomy z 0 with h | rfl | h
   ·have:=Int.mul_pos_of_neg_of_neg hd h;omega
   ·simp
   ·have:=Int.mul_neg_of_neg_of_pos hd h;omega
 obtain ⟨k1,k2⟩:=key (b.y - a.y) (crossZ a b q)
 generalize (b.y - a.y) * crossZ a b q=d at *
 generalize crossZ a b q=z at *
 by_cases h1:q.y < a.y <;> by_cases h2:q.y < b.y <;> simp [h1,h2] <;> omega
/-- the sign of a product -/
structure Sgn (x y z:Int):Prop where
 pp:0 < x → 0 < y → 0 < z
 pn:0 < x → y < 0 → z < 0
 np:x < 0 → 0 < y → z < 0
 nn:x < 0 → y < 0 → 0 < z
 zl:x=0 → z=0
 zr:y=0 → z=0
theorem sgn_mul (x y:Int):Sgn x y (x * y) where
 pp:=Int.mul_pos
 pn:=Int.mul_neg_of_pos_of_neg
 np:=Int.mul_neg_of_neg_of_pos
 nn:=Int.mul_pos_of_neg_of_neg
 zl h:=by rw [h,Int.zero_mul]
 zr h:=by rw [h,Int.mul_zero]
theorem Keeps.on {f:Pt → Pt} {s:Int} {l:List Pt} (h:Keeps f s l) {p q r:Pt} (hp:p ∈ l) (hq:q ∈ l) (hr:r ∈ l):onB (f p) (f q) (f r)=onB p q r:=by
 unfold onB
 rw [h.proper hp hq,h.inj,h.inj,h.inside hp hq hr]
/-- made greater -/
def scaleP (k:Int) (p:Pt):Pt:=⟨k * p.x,k * p.y⟩
theorem scale_one (p:Pt):scaleP 1 p=p:=by unfold scaleP;simp
end Go.Proofs.YtpjaefcmaiimlaaGreat
