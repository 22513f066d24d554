/-
  Contract of options.decimal.
-/
import Derived.Test.YtdpbmkfgolemjaaDoorOpRds
import Derived.Laws.Cover4
import Derived.LoopN
import Derived.Test.YtdpbmkfgolemjaaDoorOpAll
import Derived.Test.YtdpbmkfgolemjaaDoorRefNumW
import Derived.Test.YtdpbmkfgolemjaaDoorRefText
import Derived.Test.YtdpbmkfgolemjaaDoorOpMks
set_option linter.unusedVariables false
set_option linter.unusedSimpArgs false
set_option linter.deprecated false
namespace Go.Proofs.YtdpbmkfgolemjaaDoor
open Go.RowKit

def rv6 (l : List Int) : List Value := l.map fun x => .int .i32 x
theorem info_i32 : (Tryd.prog.info? 21).map (fun i => (i.zero, i.size, i.bytes)) = some (some (.int .i32 0), 1, 4) := by kernel_rfl
/-- a row of runes, the call's own -/
structure Rn6 (W0 : World) (v : Value) (L : List Int) (W : World) : Prop where
  own : W.ownsRow W0.heap.size 21 1 v L.length (rv6 L)
  hb : Below W0.heap.size W0 W
  sz : W0.heap.size ≤ W.heap.size
theorem Rn6.alloc {W0 W : World} {v : Value} {L : List Int} (h : Rn6 W0 v L W) (o : Obj) : Rn6 W0 v L (W.alloc o) :=
  ⟨h.own.alloc o, h.hb.alloc h.sz o, by simp; have := h.sz; omega⟩
theorem Rn6.more {W0 W W' : World} {v v' : Value} {L : List Int} {x : Int} (h : Rn6 W0 v L W) (ho : W'.ownsRow W0.heap.size 21 1 v' (L.length + 1) (rv6 L ++ rv6 [x])) (hg : W.grownBy W' v.ownBlock) : Rn6 W0 v' (L ++ [x]) W' :=
  ⟨by rw [List.length_append]; unfold rv6 at *; rw [List.map_append]; exact ho, h.hb.grown hg h.sz (fun k e => (h.own.lt k e).1), Nat.le_trans h.sz hg.size⟩
theorem rv_one6 (l : List Int) : ∀ u ∈ rv6 l, u.oneCell' = true := by
  intro u hu
  simp [rv6] at hu
  obtain ⟨d, -, rfl⟩ := hu
  rfl
theorem Rn6.var {W0 W : World} {v : Value} {L : List Int} (h : Rn6 W0 v L W) (hl : 0 < L.length) : ∃ g cp, v = .slice (some ⟨g, 0, none⟩) L.length cp ∧ W0.heap.size ≤ g ∧ Var W g (rv6 L) := by
  have ho := h.own
  rcases ho.2 with ⟨-, hn⟩ | ⟨g, cap, cur, rfl, hg, hh, -⟩
  · omega
  · refine ⟨g, cap, rfl, hg, (Array.getElem?_eq_some_iff.1 hh).1, fun i hi => ?_, fun i _ => ho.frozenAt i⟩
    have hi' : i < L.length := by simpa [rv6] using hi
    rw [ho.cellAt i (by omega)]
    exact List.getElem?_eq_getElem hi
theorem dig_step6 {f k : Nat} (h0 : k ≠ 0) (hk : k < 10 ^ f) : ∃ f', f = f' + 1 ∧ k / 10 < 10 ^ f' ∧ digs f k = digs f' (k / 10) ++ [48 + ((k % 10 : Nat) : Int)] := by
  cases f with
  | zero => simp at hk; omega
  | succ f =>
    refine ⟨f, rfl, ?_, ?_⟩
    · rw [Nat.pow_succ] at hk
      exact Nat.div_lt_of_lt_mul (by omega)
    · show (if k = 0 then [] else _) = _
      rw [if_neg h0]
theorem dec_len6 : ∀ n, n < 101 → 0 < n → 1 ≤ (dec6 n).length ∧ (dec6 n).length ≤ 3 := by decide +kernel
theorem dec_dig6 : ∀ n, n < 101 → (dec6 n).all (fun d => decide (48 ≤ d) && decide (d ≤ 57)) = true := by decide +kernel
theorem runes_nums6 : ∀ (l : List Int), (∀ d ∈ l, 48 ≤ d ∧ d ≤ 57) → nums (runesBytes l) = l := by
  have key : ∀ (l : List Int) (s : ByteArray), (∀ d ∈ l, 48 ≤ d ∧ d ≤ 57) → nums (l.foldl (fun r n => r ++ Utf8.encode n) s) = nums s ++ l := by
    intro l
    induction l with
    | nil => intro s _; simp
    | cons d l ih =>
      intro s h
      rw [List.foldl_cons, ih _ (fun x hx => h x (by simp [hx])), nums_append]
      have hd := h d (by simp)
      have e : nums (Utf8.encode d) = [d] := by
        have : d = 48 ∨ d = 49 ∨ d = 50 ∨ d = 51 ∨ d = 52 ∨ d = 53 ∨ d = 54 ∨ d = 55 ∨ d = 56 ∨ d = 57 := by omega
        rcases this with rfl | rfl | rfl | rfl | rfl | rfl | rfl | rfl | rfl | rfl <;> decide
      rw [e]
      simp
  intro l h
  have := key l ByteArray.empty h
  rw [show nums ByteArray.empty = [] from rfl, List.nil_append] at this
  exact this
theorem Var.set1_6 {W : World} {g : Nat} {vs : List Value} (h : Var W g vs) {i : Nat} (hi : i < vs.length) (x : Value) : Var (W.setCell ⟨g, i, none⟩ x) g (vs.set i x) := by
  refine ⟨by simpa using h.lt, fun k hk => ?_, fun k hk => by simpa using h.free k (by simpa using hk)⟩
  by_cases e : i = k
  · subst e
    rw [List.getElem_set_self]
    exact World.cell?_setCell_same _ _ _ (h.cells i hi)
  · rw [List.getElem_set_ne e]
    exact (World.cell?_setCell_other _ _ _ _ (by intro e'; injection e' with e1 e2; omega)).trans (h.cells k (by simpa using hk))
end Go.Proofs.YtdpbmkfgolemjaaDoor

/-
  Contract of options.Print.
-/
namespace Go.Proofs.YtdpbmkfgolemjaaDoor
open Go.RowKit

theorem len_all6 : try6 (fun m b r => decide ((text6 m b r).length ≤ 100)) = true := by decide +kernel
theorem text_len6 {m : Int} {b : Nat} (hm : 1 ≤ m ∧ m ≤ 3) (hb : b ≤ 100) (r : Bool) : (text6 m b r).length ≤ 100 := of_decide_eq_true (try_all6 len_all6 hm hb r)
theorem own_below6 {B n k : Nat} {e : TypeId} {v : Value} {xs : List Value} {W W' : World} (h : W.ownsRow B e n v k xs) (hb : Below W.heap.size W W') : W'.ownsRow B e n v k xs :=
  ⟨h.1, h.2.imp id (fun ⟨g, cap, cur, e1, e2, e3, rest⟩ => ⟨g, cap, cur, e1, e2, (hb.block g (Array.getElem?_eq_some_iff.1 e3).1).trans e3, rest⟩)⟩
theorem Os.below {W0 W W' : World} {v : Value} {L : List ByteArray} (h : Os W0 v L W) (hb : Below W.heap.size W W') : Os W0 v L W' :=
  ⟨own_below6 h.own hb, h.hb.trans (hb.mono h.sz), Nat.le_trans h.sz hb.size⟩
/-- what printing comes to, on both sides -/
def PrintP6 (m b : Int) (r : Bool) (w : World) (e : Ending) (w' : World) : Prop :=
  ((okO6 m b = false ∧ e = .returned (.tuple #[.string ⟨#[]⟩, .int .i64 2])) ∨ (okO6 m b = true ∧ ∃ s, e = .returned (.tuple #[.string s, .int .i64 0]) ∧ nums s = text6 m b.toNat r)) ∧ Below w.heap.size w w'
theorem os_new6 (W0 W : World) (h : W0.heap.size ≤ W.heap.size) (hb : Below W0.heap.size W0 W) (t : ByteArray) : Os W0 (.slice (some ⟨W.heap.size, 0, none⟩) 1 1) [t] (W.alloc (.cells #[.string t] 9)) := by
  refine ⟨⟨rfl, .inr ⟨W.heap.size, 1, #[.string t], rfl, h, World.alloc_heap_new _ _, Nat.le_refl _, by unfold maxLen; omega, rfl, rfl⟩⟩, hb.alloc h _, by simp; omega⟩
def twBud6 : ByteArray := ⟨#[98, 117, 100, 103, 101, 116]⟩
def twRef6 : ByteArray := ⟨#[114, 101, 102, 105, 110, 101]⟩
theorem cells_2_6 (w : World) (x y : ByteArray) (t : TypeId) : ∀ j u, (sv [x, y])[j]? = some u → (w.alloc (.cells #[.string x, .string y] t)).cell? ((⟨w.heap.size, 0, none⟩ : Addr).add j) = some u := cells_two_new w (.string x) (.string y) t
end Go.Proofs.YtdpbmkfgolemjaaDoor

/-
  The document's Print of options; the law's digits.
-/
namespace Go.Proofs.YtdpbmkfgolemjaaDoor
open Go.RowKit

def body6 (m : Int) (N : Nat) : List Int := modeW6 m ++ (if 0 < N then 32 :: (wBud6 ++ 32 :: dec6 N) else [])
theorem modeW_len6 (m : Int) : (modeW6 m).length ≤ 4 := by
  unfold modeW6
  split
  · decide
  · split <;> decide
def refB6 (r : Bool) : List Int := if r then 32 :: wRef6 else []
theorem doc_all6 : try6 (fun m b r => decide (body6 m b ++ (refB6 r ++ [10]) = text6 m b r)) = true := by decide +kernel
def cnt6 (n : Nat) : Nat := (dec6 n).length
theorem cnt_step6 : ∀ n, n < 101 → 0 < n → cnt6 n = cnt6 (n / 10) + 1 := by decide +kernel
end Go.Proofs.YtdpbmkfgolemjaaDoor

/-
  The walk of the law OptionsPrints.
-/
namespace Go.Proofs.YtdpbmkfgolemjaaDoor
open Go.RowKit

/-- a text as bytes, in new memory -/
theorem bytes_of6 (s : ByteArray) (W : World) : ∃ w3 cp, (convert 9 37 (.string s)).run Tryd.prog W = .ok (.slice (some ⟨W.heap.size, 0, none⟩) s.size cp) w3 ∧ Below W.heap.size W w3 ∧ BytesIn w3 (some ⟨W.heap.size, 0, none⟩) s :=
  ⟨_, _, Lib.run_convert_string_bytes (P := Tryd.prog) W 9 37 5 s (u := .string) Tryd.underlying9 Tryd.underlying37 Tryd.underlying5, bytesWorld_bl W 5 s, bytesWorld_in W 5 s⟩
end Go.Proofs.YtdpbmkfgolemjaaDoor
