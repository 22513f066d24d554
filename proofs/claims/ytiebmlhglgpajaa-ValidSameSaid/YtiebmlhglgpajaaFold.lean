/-
  Contracts: wide.fold over a step that has a contract.
-/
import Derived.Test.YtiebmlhglgpajaaMulTwo
namespace Go.Proofs.Ytiebmlhglgpajaa
open Go.RowKit

structure Wd where
  m : Bool
  a : Int
  b : Int
  c : Int
  d : Int
def Wd.val (x : Wd) : Int := WV x.m x.a x.b x.c x.d
def Wd.ok (x : Wd) : Prop := In4 x.a x.b x.c x.d
def Wd.get (l : List Wd) (i : Nat) : Wd := l.getD i ⟨false, 0, 0, 0, 0⟩

/-- a Wide's five cells at an address -/
structure At5 (W : World) (b o : Nat) (x : Wd) : Prop where
  c0 : W.cell? ⟨b, o, none⟩ = some (.bool x.m)
  c1 : W.cell? ⟨b, o + 1, none⟩ = some (.int .u64 x.a)
  c2 : W.cell? ⟨b, o + 2, none⟩ = some (.int .u64 x.b)
  c3 : W.cell? ⟨b, o + 3, none⟩ = some (.int .u64 x.c)
  c4 : W.cell? ⟨b, o + 4, none⟩ = some (.int .u64 x.d)
/-- .. that may be written -/
structure Free5 (W : World) (b o : Nat) : Prop where
  f0 : W.frozen? ⟨b, o, none⟩ = false
  f1 : W.frozen? ⟨b, o + 1, none⟩ = false
  f2 : W.frozen? ⟨b, o + 2, none⟩ = false
  f3 : W.frozen? ⟨b, o + 3, none⟩ = false
  f4 : W.frozen? ⟨b, o + 4, none⟩ = false

theorem At5.below {W W' : World} {b o : Nat} {x : Wd} (h : At5 W b o x) (hb : Below W.heap.size W W') (hlt : b < W.heap.size) : At5 W' b o x :=
  ⟨(hb.cell (p := ⟨b, _, none⟩) hlt).trans h.c0, (hb.cell (p := ⟨b, _, none⟩) hlt).trans h.c1, (hb.cell (p := ⟨b, _, none⟩) hlt).trans h.c2, (hb.cell (p := ⟨b, _, none⟩) hlt).trans h.c3, (hb.cell (p := ⟨b, _, none⟩) hlt).trans h.c4⟩
theorem Free5.below {W W' : World} {b o : Nat} (h : Free5 W b o) (hb : Below W.heap.size W W') (hlt : b < W.heap.size) : Free5 W' b o :=
  ⟨(hb.frozen (p := ⟨b, _, none⟩) hlt).trans h.f0, (hb.frozen (p := ⟨b, _, none⟩) hlt).trans h.f1, (hb.frozen (p := ⟨b, _, none⟩) hlt).trans h.f2, (hb.frozen (p := ⟨b, _, none⟩) hlt).trans h.f3, (hb.frozen (p := ⟨b, _, none⟩) hlt).trans h.f4⟩
theorem At5.lt {W : World} {b o : Nat} {x : Wd} (h : At5 W b o x) : b < W.heap.size := by
  have := h.c0
  unfold World.cell? at this
  by_cases hl : b < W.heap.size
  · exact hl
  · simp [Array.getElem?_eq_none (by omega : W.heap.size ≤ b)] at this
theorem At5.alloc {W : World} {b o : Nat} {x : Wd} (h : At5 W b o x) (ob : Obj) : At5 (W.alloc ob) b o x :=
  h.below ((Below.refl _ _).alloc (Nat.le_refl _) ob) h.lt
theorem Free5.alloc {W : World} {b o : Nat} (h : Free5 W b o) (hlt : b < W.heap.size) (ob : Obj) : Free5 (W.alloc ob) b o :=
  h.below ((Below.refl _ _).alloc (Nat.le_refl _) ob) hlt
theorem Free5.store {W : World} {b o b' o' : Nat} (h : Free5 W b o) (m : Bool) (p q r s : Int) :
    Free5 (((((W.setCell ⟨b', o', none⟩ (.bool m)).setCell ⟨b', o' + 1, none⟩ (.int .u64 p)).setCell ⟨b', o' + 2, none⟩ (.int .u64 q)).setCell ⟨b', o' + 3, none⟩ (.int .u64 r)).setCell ⟨b', o' + 4, none⟩ (.int .u64 s)) b o := by
  constructor <;> simp only [World.frozen?_setCell]
  · exact h.f0
  · exact h.f1
  · exact h.f2
  · exact h.f3
  · exact h.f4
theorem At5.store_far {W : World} {b o b' o' : Nat} {x : Wd} (h : At5 W b o x) (hne : b' ≠ b) (m : Bool) (p q r s : Int) :
    At5 (((((W.setCell ⟨b', o', none⟩ (.bool m)).setCell ⟨b', o' + 1, none⟩ (.int .u64 p)).setCell ⟨b', o' + 2, none⟩ (.int .u64 q)).setCell ⟨b', o' + 3, none⟩ (.int .u64 r)).setCell ⟨b', o' + 4, none⟩ (.int .u64 s)) b o x := by
  have far : ∀ (W : World) (i j : Nat) (v : Value), (W.setCell ⟨b', i, none⟩ v).cell? ⟨b, j, none⟩ = W.cell? ⟨b, j, none⟩ := fun W i j v => World.cell?_setCell_far _ _ _ _ hne
  constructor <;> simp only [far]
  · exact h.c0
  · exact h.c1
  · exact h.c2
  · exact h.c3
  · exact h.c4
/-- five stores -/
theorem At5.store {W : World} {b o : Nat} {x : Wd} (h : At5 W b o x) (m : Bool) (p q r s : Int) :
    At5 (((((W.setCell ⟨b, o, none⟩ (.bool m)).setCell ⟨b, o + 1, none⟩ (.int .u64 p)).setCell ⟨b, o + 2, none⟩ (.int .u64 q)).setCell ⟨b, o + 3, none⟩ (.int .u64 r)).setCell ⟨b, o + 4, none⟩ (.int .u64 s)) b o ⟨m, p, q, r, s⟩ := by
  have h0 := h.c0; have h1 := h.c1; have h2 := h.c2; have h3 := h.c3; have h4 := h.c4
  constructor <;> simp [go_sem, h0, h1, h2, h3, h4]

/-- what a fold comes to: none where a result on the way does not fit -/
def fres (op : Int → Int → Int) (acc : Int) : List Wd → Option Int
  | [] => some acc
  | x :: r => if -M256 < op acc x.val ∧ op acc x.val < M256 then fres op (op acc x.val) r else none

def FoldP (op : Int → Int → Int) (acc : Int) (l : List Wd) (w : World) (e : Ending) (w' : World) : Prop :=
  ∃ (m : Bool) (a b c d er : Int), In4 a b c d ∧ Hid ((er = 0 ∧ fres op acc l = some (WV m a b c d) ∧ Norm m a b c d) ∨ (er = 10 ∧ (m = false ∧ a = 0 ∧ b = 0 ∧ c = 0 ∧ d = 0) ∧ fres op acc l = none)) ∧
    e = .returned (.tuple #[(.agg #[.bool m, .int .u64 a, .int .u64 b, .int .u64 c, .int .u64 d]), .int .i64 er]) ∧ Below w.heap.size w w'

theorem drop_get (l : List Wd) (k : Nat) (h : k < l.length) : l.drop k = Wd.get l k :: l.drop (k + 1) := by
  rw [List.drop_eq_getElem_cons h]
  simp [Wd.get, List.getD, List.getElem?_eq_getElem h]
theorem fres_ok {op : Int → Int → Int} {acc : Int} {l : List Wd} {k : Nat} {x : Wd} (h : k < l.length) (hf : fres op acc l = fres op x.val (l.drop k)) {v : Int} (hv : v = op x.val (Wd.get l k).val) (h0 : -M256 < v) (h1 : v < M256) : fres op acc l = fres op v (l.drop (k + 1)) := by
  rw [hf, drop_get l k h]
  subst hv
  simp only [fres]
  rw [if_pos ⟨h0, h1⟩]
theorem fres_no {op : Int → Int → Int} {acc : Int} {l : List Wd} {k : Nat} {x : Wd} (h : k < l.length) (hf : fres op acc l = fres op x.val (l.drop k)) (hv : op x.val (Wd.get l k).val ≤ -M256 ∨ M256 ≤ op x.val (Wd.get l k).val) : fres op acc l = none := by
  rw [hf, drop_get l k h]
  simp only [fres]
  rw [if_neg (by omega)]

/-- the slice's Wides in memory -/
def WidesAt (W : World) (g o : Nat) (l : List Wd) : Prop := ∀ i, i < l.length → At5 W g (o + i * 5) (Wd.get l i) ∧ (Wd.get l i).ok

/-- ahead of round k -/
def FoldR (op : Int → Int → Int) (acc : Int) (l : List Wd) (w : World) (kv : Value) (W : World) : Prop :=
  ∃ (k : Nat) (x : Wd), k ≤ l.length ∧ kv = .int .i64 k ∧ x.ok ∧ Norm x.m x.a x.b x.c x.d ∧ fres op acc l = fres op x.val (l.drop k) ∧
    At5 W (w.heap.size + 1 + 1) 0 x ∧ Free5 W (w.heap.size + 1 + 1) 0 ∧ At5 W (w.heap.size + 1) 0 ⟨false, 0, 0, 0, 0⟩ ∧ Free5 W (w.heap.size + 1) 0 ∧ Below w.heap.size w W

end Go.Proofs.Ytiebmlhglgpajaa
