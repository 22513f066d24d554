/-
  Contract of options.decimal.
-/
import Derived.Test.YtdpbmkfgolemjaaDoorOpRds
import Derived.Laws.Cover4
import Derived.LoopN
import Derived.Test.YtdpbmkfgolemjaaDoorOpMath
import Derived.Test.YtdpbmkfgolemjaaDoorRefNumW
import Derived.Test.YtdpbmkfgolemjaaDoorRefText
set_option linter.unusedVariables false
set_option linter.unusedSimpArgs false
set_option linter.deprecated false
namespace Go.Proofs.YtdpbmkfgolemjaaDoor
open Go.RowKit

def rv6 (l : List Int) : List Value := l.map fun x => .int .i32 x
theorem info_i32 : (Tryd.prog.info? 21).map (fun i => (i.zero, i.size, i.bytes)) = some (some (.int .i32 0), 1, 4) := by kernel_rfl
/-- a row of runes, the call's own -/
structure Rn6 (W0 : World) (v : Value) (L : List Int) (W : World) : Prop where
  own : W.ownsRow W0.heap.size 21 1 v L.length (rv6 L)
  hb : Below W0.heap.size W0 W
  sz : W0.heap.size ≤ W.heap.size
theorem Rn6.alloc {W0 W : World} {v : Value} {L : List Int} (h : Rn6 W0 v L W) (o : Obj) : Rn6 W0 v L (W.alloc o) :=
  ⟨h.own.alloc o, h.hb.alloc h.sz o, by simp; have := h.sz; omega⟩
theorem Rn6.more {W0 W W' : World} {v v' : Value} {L : List Int} {x : Int} (h : Rn6 W0 v L W) (ho : W'.ownsRow W0.heap.size 21 1 v' (L.length + 1) (rv6 L ++ rv6 [x])) (hg : W.grownBy W' v.ownBlock) : Rn6 W0 v' (L ++ [x]) W' :=
  ⟨by rw [List.length_append]; unfold rv6 at *; rw [List.map_append]; exact ho, h.hb.grown hg h.sz (fun k e => (h.own.lt k e).1), Nat.le_trans h.sz hg.size⟩
theorem rv_one6 (l : List Int) : ∀ u ∈ rv6 l, u.oneCell' = true := by
  intro u hu
  simp [rv6] at hu
  obtain ⟨d, -, rfl⟩ := hu
  rfl
theorem Rn6.var {W0 W : World} {v : Value} {L : List Int} (h : Rn6 W0 v L W) (hl : 0 < L.length) : ∃ g cp, v = .slice (some ⟨g, 0, none⟩) L.length cp ∧ W0.heap.size ≤ g ∧ Var W g (rv6 L) := by
  have ho := h.own
  rcases ho.2 with ⟨-, hn⟩ | ⟨g, cap, cur, rfl, hg, hh, -⟩
  · omega
  · refine ⟨g, cap, rfl, hg, (Array.getElem?_eq_some_iff.1 hh).1, fun i hi => ?_, fun i _ => ho.frozenAt i⟩
    have hi' : i < L.length := by simpa [rv6] using hi
    rw [ho.cellAt i (by omega)]
    exact List.getElem?_eq_getElem hi
theorem dig_step6 {f k : Nat} (h0 : k ≠ 0) (hk : k < 10 ^ f) : ∃ f', f = f' + 1 ∧ k / 10 < 10 ^ f' ∧ digs f k = digs f' (k / 10) ++ [48 + ((k % 10 : Nat) : Int)] := by
  cases f with
  | zero => simp at hk; omega
  | succ f =>
    refine ⟨f, rfl, ?_, ?_⟩
    · rw [Nat.pow_succ] at hk
      exact Nat.div_lt_of_lt_mul (by omega)
    · show (if k = 0 then [] else _) = _
      rw [if_neg h0]
theorem dec_len6 : ∀ n, n < 101 → 0 < n → 1 ≤ (dec6 n).length ∧ (dec6 n).length ≤ 3 := by decide +kernel
theorem dec_dig6 : ∀ n, n < 101 → (dec6 n).all (fun d => decide (48 ≤ d) && decide (d ≤ 57)) = true := by decide +kernel
theorem runes_nums6 : ∀ (l : List Int), (∀ d ∈ l, 48 ≤ d ∧ d ≤ 57) → nums (runesBytes l) = l := by
  have key : ∀ (l : List Int) (s : ByteArray), (∀ d ∈ l, 48 ≤ d ∧ d ≤ 57) → nums (l.foldl (fun r n => r ++ Utf8.encode n) s) = nums s ++ l := by
    intro l
    induction l with
    | nil => intro s _; simp
    | cons d l ih =>
      intro s h
      rw [List.foldl_cons, ih _ (fun x hx => h x (by simp [hx])), nums_append]
      have hd := h d (by simp)
      have e : nums (Utf8.encode d) = [d] := by
        have : d = 48 ∨ d = 49 ∨ d = 50 ∨ d = 51 ∨ d = 52 ∨ d = 53 ∨ d = 54 ∨ d = 55 ∨ d = 56 ∨ d = 57 := by omega
        rcases this with rfl | rfl | rfl | rfl | rfl | rfl | rfl | rfl | rfl | rfl <;> decide
      rw [e]
      simp
  intro l h
  have := key l ByteArray.empty h
  rw [show nums ByteArray.empty = [] from rfl, List.nil_append] at this
  exact this
theorem Var.set1_6 {W : World} {g : Nat} {vs : List Value} (h : Var W g vs) {i : Nat} (hi : i < vs.length) (x : Value) : Var (W.setCell ⟨g, i, none⟩ x) g (vs.set i x) := by
  refine ⟨by simpa using h.lt, fun k hk => ?_, fun k hk => by simpa using h.free k (by simpa using hk)⟩
  by_cases e : i = k
  · subst e
    rw [List.getElem_set_self]
    exact World.cell?_setCell_same _ _ _ (h.cells i hi)
  · rw [List.getElem_set_ne e]
    exact (World.cell?_setCell_other _ _ _ _ (by intro e'; injection e' with e1 e2; omega)).trans (h.cells k (by simpa using hk))
end Go.Proofs.YtdpbmkfgolemjaaDoor

/-
  Options as words: what is found by trying all.
-/
namespace Go.Proofs.YtdpbmkfgolemjaaDoor

theorem dec_is6 : ∀ b : Nat, b < 101 → 0 < b → textZ (b : Int) = dec6 b := by decide +kernel
def modes6 : List Int := [1, 2, 3]
def try6 (p : Int → Nat → Bool → Bool) : Bool := modes6.all fun m => (List.range 101).all fun b => p m b true && p m b false
theorem try_all6 {p : Int → Nat → Bool → Bool} (h : try6 p = true) {m : Int} {b : Nat} (hm : 1 ≤ m ∧ m ≤ 3) (hb : b ≤ 100) (r : Bool) : p m b r = true := by
  unfold try6 at h
  rw [List.all_eq_true] at h
  have h1 := h m (by unfold modes6; simp; omega)
  rw [List.all_eq_true] at h1
  have h2 := h1 b (by rw [List.mem_range]; omega)
  rw [Bool.and_eq_true] at h2
  cases r
  · exact h2.2
  · exact h2.1
theorem back_all6 : try6 (fun m b r => decide (parse6 (text6 m b r) = ⟨m, b, r, 0, 0⟩)) = true := by decide +kernel
theorem parse_text6 {m : Int} {b : Nat} (hm : 1 ≤ m ∧ m ≤ 3) (hb : b ≤ 100) (r : Bool) : parse6 (text6 m b r) = ⟨m, b, r, 0, 0⟩ := of_decide_eq_true (try_all6 back_all6 hm hb r)
/-- the words that options are hurt with -/
def bads6 : List (List Int) := [[120], [113, 117, 97, 100, 115], [55], [82, 101, 102, 105, 110, 101], [98, 117, 100, 103, 101, 116, 115], [97, 108]]
def hurt6 (l bad : List Int) : Bool := decide (parse6 (l ++ bad) = bad6 l.length 11) && decide (parse6 (bad ++ 32 :: l) = bad6 0 11)
theorem hurt_all6 : try6 (fun m b r => bads6.all fun bad => hurt6 (text6 m b r) bad) = true := by decide +kernel
theorem first_all6 : try6 (fun m b r => decide (parse6 (wRef6 ++ 32 :: text6 m b r) = bad6 0 11)) = true := by decide +kernel
/-- the words behind the mode, the other way round -/
def turn6 (m : Int) (b : Nat) : List Int := modeW6 m ++ 32 :: (wRef6 ++ 32 :: (wBud6 ++ 32 :: dec6 b))
def order6 (m : Int) (b : Nat) : Bool := decide (b = 0) || (decide (parse6 (turn6 m b) = ⟨m, b, true, 0, 0⟩) && decide (parse6 (turn6 m b ++ 32 :: wRef6) = bad6 ((turn6 m b).length + 1) 11) &&
  decide (parse6 (turn6 m b ++ 32 :: (wBud6 ++ 32 :: dec6 b)) = bad6 ((turn6 m b).length + 1) 11) && decide (text6 m b true = modeW6 m ++ 32 :: (wBud6 ++ 32 :: (dec6 b ++ 32 :: (wRef6 ++ [10])))))
theorem order_all6 : try6 (fun m b _ => order6 m b) = true := by decide +kernel
theorem text_inj6 {m m' : Int} {b b' : Nat} {r r' : Bool} (hm : 1 ≤ m ∧ m ≤ 3) (hb : b ≤ 100) (hm' : 1 ≤ m' ∧ m' ≤ 3) (hb' : b' ≤ 100) (h : text6 m b r = text6 m' b' r') : m = m' ∧ b = b' ∧ r = r' := by
  have h1 := parse_text6 hm hb r
  rw [h, parse_text6 hm' hb' r'] at h1
  injection h1 with e1 e2 e3
  exact ⟨e1.symm, by omega, e3.symm⟩
end Go.Proofs.YtdpbmkfgolemjaaDoor

/-
  Contract of options.Print.
-/
namespace Go.Proofs.YtdpbmkfgolemjaaDoor
open Go.RowKit

theorem len_all6 : try6 (fun m b r => decide ((text6 m b r).length ≤ 100)) = true := by decide +kernel
theorem text_len6 {m : Int} {b : Nat} (hm : 1 ≤ m ∧ m ≤ 3) (hb : b ≤ 100) (r : Bool) : (text6 m b r).length ≤ 100 := of_decide_eq_true (try_all6 len_all6 hm hb r)
theorem own_below6 {B n k : Nat} {e : TypeId} {v : Value} {xs : List Value} {W W' : World} (h : W.ownsRow B e n v k xs) (hb : Below W.heap.size W W') : W'.ownsRow B e n v k xs :=
  ⟨h.1, h.2.imp id (fun ⟨g, cap, cur, e1, e2, e3, rest⟩ => ⟨g, cap, cur, e1, e2, (hb.block g (Array.getElem?_eq_some_iff.1 e3).1).trans e3, rest⟩)⟩
theorem Os.below {W0 W W' : World} {v : Value} {L : List ByteArray} (h : Os W0 v L W) (hb : Below W.heap.size W W') : Os W0 v L W' :=
  ⟨own_below6 h.own hb, h.hb.trans (hb.mono h.sz), Nat.le_trans h.sz hb.size⟩
/-- what printing comes to, on both sides -/
def PrintP6 (m b : Int) (r : Bool) (w : World) (e : Ending) (w' : World) : Prop :=
  ((okO6 m b = false ∧ e = .returned (.tuple #[.string ⟨#[]⟩, .int .i64 2])) ∨ (okO6 m b = true ∧ ∃ s, e = .returned (.tuple #[.string s, .int .i64 0]) ∧ nums s = text6 m b.toNat r)) ∧ Below w.heap.size w w'
theorem os_new6 (W0 W : World) (h : W0.heap.size ≤ W.heap.size) (hb : Below W0.heap.size W0 W) (t : ByteArray) : Os W0 (.slice (some ⟨W.heap.size, 0, none⟩) 1 1) [t] (W.alloc (.cells #[.string t] 9)) := by
  refine ⟨⟨rfl, .inr ⟨W.heap.size, 1, #[.string t], rfl, h, World.alloc_heap_new _ _, Nat.le_refl _, by unfold maxLen; omega, rfl, rfl⟩⟩, hb.alloc h _, by simp; omega⟩
def twBud6 : ByteArray := ⟨#[98, 117, 100, 103, 101, 116]⟩
def twRef6 : ByteArray := ⟨#[114, 101, 102, 105, 110, 101]⟩
theorem cells_2_6 (w : World) (x y : ByteArray) (t : TypeId) : ∀ j u, (sv [x, y])[j]? = some u → (w.alloc (.cells #[.string x, .string y] t)).cell? ((⟨w.heap.size, 0, none⟩ : Addr).add j) = some u := cells_two_new w (.string x) (.string y) t
end Go.Proofs.YtdpbmkfgolemjaaDoor

/-
  Sets of options, and Make.
-/
namespace Go.Proofs.YtdpbmkfgolemjaaDoor
open Go.RowKit

theorem Var.belowB6 {W W' : World} {g B : Nat} {vs : List Value} (h : Var W g vs) (hb : Below B W W') (hg : g < B) : Var W' g vs :=
  ⟨Nat.lt_of_lt_of_le h.lt hb.size, fun i hi => (hb.cell (p := ⟨g, i, none⟩) hg).trans (h.cells i hi), fun i hi => (hb.frozen (p := ⟨g, i, none⟩) hg).trans (h.free i hi)⟩
/-- what is set -/
inductive St6 where
  | mode (n : Int)
  | budget (n : Int)
  | refine (r : Bool)
  | no
structure Op6 where
  m : Int
  b : Int
  r : Bool
def Op6.vals (o : Op6) : List Value := [.int .i64 o.m, .int .i64 o.b, .bool o.r]
def St6.on : St6 → Op6 → Op6
  | .mode n, o => ⟨n, o.b, o.r⟩
  | .budget n, o => ⟨o.m, n, o.r⟩
  | .refine r, o => ⟨o.m, o.b, r⟩
  | .no, o => o
def St6.val : St6 → Value
  | .mode n => .int .i64 n
  | .budget n => .int .i64 n
  | .refine r => .bool r
  | .no => .bool false
def made6 (L : List St6) : Op6 := L.foldl (fun o s => s.on o) ⟨1, 0, false⟩
theorem made_snoc6 {L : List St6} {i : Nat} (h : i < L.length) : made6 (L.take (i + 1)) = L[i].on (made6 (L.take i)) := by
  unfold made6
  rw [List.take_succ_eq_append_getElem h, List.foldl_append]
  rfl
def makeR6 (o : Op6) : Value := if okO6 o.m o.b then .tuple #[.agg #[.int .i64 o.m, .int .i64 o.b, .bool o.r], .int .i64 0] else .tuple #[.agg #[.int .i64 0, .int .i64 0, .bool false], .int .i64 2]
end Go.Proofs.YtdpbmkfgolemjaaDoor

/-
  The document's Print of options; the law's digits.
-/
namespace Go.Proofs.YtdpbmkfgolemjaaDoor
open Go.RowKit

def body6 (m : Int) (N : Nat) : List Int := modeW6 m ++ (if 0 < N then 32 :: (wBud6 ++ 32 :: dec6 N) else [])
theorem modeW_len6 (m : Int) : (modeW6 m).length ≤ 4 := by
  unfold modeW6
  split
  · decide
  · split <;> decide
def refB6 (r : Bool) : List Int := if r then 32 :: wRef6 else []
theorem doc_all6 : try6 (fun m b r => decide (body6 m b ++ (refB6 r ++ [10]) = text6 m b r)) = true := by decide +kernel
def cnt6 (n : Nat) : Nat := (dec6 n).length
theorem cnt_step6 : ∀ n, n < 101 → 0 < n → cnt6 n = cnt6 (n / 10) + 1 := by decide +kernel
end Go.Proofs.YtdpbmkfgolemjaaDoor
