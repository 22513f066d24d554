/-
  Contract of the document's side: Text.
-/
import Derived.Test.YtpjaefcmaiimlaaRefTen
import Derived.Test.YtpjaefcmaiimlaaQuots
import Derived.Test.YtpjaefcmaiimlaaAreas
import Derived.Deep.DeepCutAuto
set_option linter.unusedVariables false
set_option linter.unusedSimpArgs false
set_option linter.deprecated false
namespace Go.Proofs.Ytpjaefcmaiimlaa
open Go.RowKit

def K5 : Nat := 499
/-- a number's text -/
def textZ (z : Int) : List Int := if z = 0 then [48] else (if z < 0 then [45] else []) ++ digs (K5 + 1) z.natAbs
theorem digs_zero : ∀ f, digs f 0 = []
  | 0 => rfl
  | f + 1 => by simp [digs]
theorem digs_more' (k n : Nat) (h0 : n ≠ 0) (h : n < 10 ^ (k + 1)) : digs (k + 1) n = digs (k + 1) (n / 10) ++ [48 + ((n % 10 : Nat) : Int)] := by
  have e : digs (k + 1) n = digs k (n / 10) ++ [48 + ((n % 10 : Nat) : Int)] := by
    show (if n = 0 then [] else digs k (n / 10) ++ [48 + ((n % 10 : Nat) : Int)]) = _
    rw [if_neg h0]
  have hq : n / 10 < 10 ^ k := by rw [Nat.pow_succ] at h; omega
  rw [e, digs_fuel k (n / 10) hq (k + 1) (by omega)]
theorem digs_more (n : Nat) (h0 : n ≠ 0) (h : n < 10 ^ (K5 + 1)) : digs (K5 + 1) n = digs (K5 + 1) (n / 10) ++ [48 + ((n % 10 : Nat) : Int)] := digs_more' K5 n h0 h
theorem toNat_lt (x B : Int) (N : Nat) (hB : B < (N : Int)) (hN : 0 < N) (h : x < B) : x.toNat < N := by omega
theorem big_lt : BIG < ((10 ^ (K5 + 1) : Nat) : Int) := by unfold BIG K5; decide +kernel
theorem big_nat (x : Int) (h : x < BIG) : x.toNat < 10 ^ (K5 + 1) := toNat_lt x BIG _ big_lt (Nat.pow_pos (by omega)) h
theorem conv1 (w : World) (x : Int) (T : TypeId) (g : Nat) (hg : g = w.heap.size) :
    (convert 22 9 (.slice (some ⟨g, 0, none⟩) 1 1)).run Try.prog (w.alloc (.cells #[.int .u8 x] T)) = .ok (.string (strOfNums [x])) (w.alloc (.cells #[.int .u8 x] T)) := by
  subst hg
  exact run_convert_bytes_arg _ 22 5 Try.underlying22 Try.underlying5 w.heap.size 0 1 1 [x] rfl (fun i hi => by
    obtain rfl : i = 0 := by simp at hi; omega
    simp [go_sem]) 9 Try.underlying9
theorem textOf_Z (m : Bool) (V : Int) (h0 : 0 ≤ V) (h1 : V < M256) : textOf m V.toNat = textZ (if m then -V else V) := by
  have h78 := m256_lt
  have hlt : V.toNat < 10 ^ 78 := by
    have : ((V.toNat : Nat) : Int) < 10 ^ 78 := by omega
    exact_mod_cast this
  unfold textOf textZ
  have e : digs 80 V.toNat = digs (K5 + 1) V.toNat := by rw [digs_fuel 78 _ hlt 80 (by omega), digs_fuel 78 _ hlt (K5 + 1) (by unfold K5; omega)]
  rw [e]
  by_cases hz : V = 0
  · subst hz; cases m <;> simp
  · cases m
    · simp only [Bool.false_eq_true, if_false]
      rw [if_neg (by omega), if_neg hz, if_neg (by omega), show V.natAbs = V.toNat by omega]
    · simp only [if_true]
      rw [if_neg (by omega), if_neg (by omega), if_pos (by omega), show (-V).natAbs = V.toNat by omega]
def strLen : Value → Nat
  | .string s => s.size
  | _ => 0
theorem str_cons (x : Int) (ds : List Int) : strOfNums [x] ++ strOfNums ds = strOfNums (x :: ds) := ByteArray.ext (by simp [strOfNums])
theorem str_cons45 (ds : List Int) : (⟨#[45]⟩ : ByteArray) ++ strOfNums ds = strOfNums (45 :: ds) := str_cons 45 ds

/-- the frame of Text -/
structure NTxt (w : World) (m : Bool) (s : Value) (W : World) : Prop where
  c0 : W.cell? ⟨w.heap.size, 0, none⟩ = some (.bool m)
  c1 : W.cell? ⟨w.heap.size, 1, none⟩ = some s
  lt : w.heap.size < W.heap.size
  hb : Below w.heap.size w W
theorem NTxt.below {w : World} {m : Bool} {s : Value} {W W' : World} (h : NTxt w m s W) (hb : Below W.heap.size W W') : NTxt w m s W' :=
  ⟨(hb.cell (by exact h.lt)).trans h.c0, (hb.cell (by exact h.lt)).trans h.c1, Nat.lt_of_lt_of_le h.lt hb.size, bl_trans h.hb hb⟩

/-- ahead of a round -/
def RTextR (w : World) (m : Bool) (s : Value) (V : Int) (sv dv : Value) (W : World) : Prop :=
  ∃ (ds : List Int) (ad : Option Addr) (n c : Nat) (f : Nat → Int), sv = .string (strOfNums ds) ∧ dv = .slice ad n c ∧ Hid (DigAt W ad n c f) ∧ n ≤ 100 ∧ Hid (digs (K5 + 1) V.toNat = digs (K5 + 1) (dval f n).toNat ++ ds ∧ dval f n ≤ V) ∧ NTxt w m s W
theorem rt_step {V : Int} {f f' : Nat → Int} {n n' : Nat} {r : Int} {ds : List Int} (hV : V < BIG) (hq : digs (K5 + 1) V.toNat = digs (K5 + 1) (dval f n).toNat ++ ds ∧ dval f n ≤ V) (h0 : 0 < dval f n) (h0' : 0 ≤ dval f' n') (e : dval f n = 10 * dval f' n' + r) (hr0 : 0 ≤ r) (hr1 : r < 10) :
    (digs (K5 + 1) V.toNat = digs (K5 + 1) (dval f' n').toNat ++ ((48 + r) :: ds) ∧ dval f' n' ≤ V) ∧ ds.length + 1 ≤ K5 + 1 := by
  have hlt : (dval f n).toNat < 10 ^ (K5 + 1) := big_nat _ (by omega)
  have e1 := digs_more (dval f n).toNat (by omega) hlt
  have e2 : (dval f n).toNat / 10 = (dval f' n').toNat := by omega
  have e3 : (((dval f n).toNat % 10 : Nat) : Int) = r := by omega
  rw [e2, e3] at e1
  refine ⟨⟨?_, by omega⟩, ?_⟩
  · rw [hq.1, e1]; simp
  · have hl := digs_length (K5 + 1) V.toNat
    rw [hq.1, e1] at hl
    simp at hl
    omega

end Go.Proofs.Ytpjaefcmaiimlaa
