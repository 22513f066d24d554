/-
  Contracts: wide.fold over a step that has a contract.
-/
import Derived.Test.YtkidphekfnmhhaaMulTwo
namespace Go.Proofs.Ytkidphekfnmhhaa
open Go.RowKit

structure Wd where
  m : Bool
  a : Int
  b : Int
  c : Int
  d : Int
def Wd.val (x : Wd) : Int := WV x.m x.a x.b x.c x.d
def Wd.ok (x : Wd) : Prop := In4 x.a x.b x.c x.d
def Wd.get (l : List Wd) (i : Nat) : Wd := l.getD i ⟨false, 0, 0, 0, 0⟩

/-- a Wide's five cells at an address -/
structure At5 (W : World) (b o : Nat) (x : Wd) : Prop where
  c0 : W.cell? ⟨b, o, none⟩ = some (.bool x.m)
  c1 : W.cell? ⟨b, o + 1, none⟩ = some (.int .u64 x.a)
  c2 : W.cell? ⟨b, o + 2, none⟩ = some (.int .u64 x.b)
  c3 : W.cell? ⟨b, o + 3, none⟩ = some (.int .u64 x.c)
  c4 : W.cell? ⟨b, o + 4, none⟩ = some (.int .u64 x.d)
/-- .. that may be written -/
structure Free5 (W : World) (b o : Nat) : Prop where
  f0 : W.frozen? ⟨b, o, none⟩ = false
  f1 : W.frozen? ⟨b, o + 1, none⟩ = false
  f2 : W.frozen? ⟨b, o + 2, none⟩ = false
  f3 : W.frozen? ⟨b, o + 3, none⟩ = false
  f4 : W.frozen? ⟨b, o + 4, none⟩ = false

theorem At5.below {W W' : World} {b o : Nat} {x : Wd} (h : At5 W b o x) (hb : Below W.heap.size W W') (hlt : b < W.heap.size) : At5 W' b o x :=
  ⟨(hb.cell (p := ⟨b, _, none⟩) hlt).trans h.c0, (hb.cell (p := ⟨b, _, none⟩) hlt).trans h.c1, (hb.cell (p := ⟨b, _, none⟩) hlt).trans h.c2, (hb.cell (p := ⟨b, _, none⟩) hlt).trans h.c3, (hb.cell (p := ⟨b, _, none⟩) hlt).trans h.c4⟩
theorem Free5.below {W W' : World} {b o : Nat} (h : Free5 W b o) (hb : Below W.heap.size W W') (hlt : b < W.heap.size) : Free5 W' b o :=
  ⟨(hb.frozen (p := ⟨b, _, none⟩) hlt).trans h.f0, (hb.frozen (p := ⟨b, _, none⟩) hlt).trans h.f1, (hb.frozen (p := ⟨b, _, none⟩) hlt).trans h.f2, (hb.frozen (p := ⟨b, _, none⟩) hlt).trans h.f3, (hb.frozen (p := ⟨b, _, none⟩) hlt).trans h.f4⟩
theorem At5.lt {W : World} {b o : Nat} {x : Wd} (h : At5 W b o x) : b < W.heap.size := by
  have := h.c0
  unfold World.cell? at this
  by_cases hl : b < W.heap.size
  · exact hl
  · simp [Array.getElem?_eq_none (by omega : W.heap.size ≤ b)] at this
theorem At5.alloc {W : World} {b o : Nat} {x : Wd} (h : At5 W b o x) (ob : Obj) : At5 (W.alloc ob) b o x :=
  h.below ((Below.refl _ _).alloc (Nat.le_refl _) ob) h.lt
theorem Free5.alloc {W : World} {b o : Nat} (h : Free5 W b o) (hlt : b < W.heap.size) (ob : Obj) : Free5 (W.alloc ob) b o :=
  h.below ((Below.refl _ _).alloc (Nat.le_refl _) ob) hlt
theorem Free5.store {W : World} {b o b' o' : Nat} (h : Free5 W b o) (m : Bool) (p q r s : Int) :
    Free5 (((((W.setCell ⟨b', o', none⟩ (.bool m)).setCell ⟨b', o' + 1, none⟩ (.int .u64 p)).setCell ⟨b', o' + 2, none⟩ (.int .u64 q)).setCell ⟨b', o' + 3, none⟩ (.int .u64 r)).setCell ⟨b', o' + 4, none⟩ (.int .u64 s)) b o := by
  constructor <;> simp only [World.frozen?_setCell]
  · exact h.f0
  · exact h.f1
  · exact h.f2
  · exact h.f3
  · exact h.f4
theorem At5.store_far {W : World} {b o b' o' : Nat} {x : Wd} (h : At5 W b o x) (hne : b' ≠ b) (m : Bool) (p q r s : Int) :
    At5 (((((W.setCell ⟨b', o', none⟩ (.bool m)).setCell ⟨b', o' + 1, none⟩ (.int .u64 p)).setCell ⟨b', o' + 2, none⟩ (.int .u64 q)).setCell ⟨b', o' + 3, none⟩ (.int .u64 r)).setCell ⟨b', o' + 4, none⟩ (.int .u64 s)) b o x := by
  have far : ∀ (W : World) (i j : Nat) (v : Value), (W.setCell ⟨b', i, none⟩ v).cell? ⟨b, j, none⟩ = W.cell? ⟨b, j, none⟩ := fun W i j v => World.cell?_setCell_far _ _ _ _ hne
  constructor <;> simp only [far]
  · exact h.c0
  · exact h.c1
  · exact h.c2
  · exact h.c3
  · exact h.c4
/-- five stores -/
theorem At5.store {W : World} {b o : Nat} {x : Wd} (h : At5 W b o x) (m : Bool) (p q r s : Int) :
    At5 (((((W.setCell ⟨b, o, none⟩ (.bool m)).setCell ⟨b, o + 1, none⟩ (.int .u64 p)).setCell ⟨b, o + 2, none⟩ (.int .u64 q)).setCell ⟨b, o + 3, none⟩ (.int .u64 r)).setCell ⟨b, o + 4, none⟩ (.int .u64 s)) b o ⟨m, p, q, r, s⟩ := by
  have h0 := h.c0; have h1 := h.c1; have h2 := h.c2; have h3 := h.c3; have h4 := h.c4
  constructor <;> simp [go_sem, h0, h1, h2, h3, h4]

/-- what a fold comes to: none where a result on the way does not fit -/
def fres (op : Int → Int → Int) (acc : Int) : List Wd → Option Int
  | [] => some acc
  | x :: r => if -M256 < op acc x.val ∧ op acc x.val < M256 then fres op (op acc x.val) r else none

def FoldP (op : Int → Int → Int) (acc : Int) (l : List Wd) (w : World) (e : Ending) (w' : World) : Prop :=
  ∃ (m : Bool) (a b c d er : Int), In4 a b c d ∧ Hid ((er = 0 ∧ fres op acc l = some (WV m a b c d) ∧ Norm m a b c d) ∨ (er = 10 ∧ (m = false ∧ a = 0 ∧ b = 0 ∧ c = 0 ∧ d = 0) ∧ fres op acc l = none)) ∧
    e = .returned (.tuple #[(.agg #[.bool m, .int .u64 a, .int .u64 b, .int .u64 c, .int .u64 d]), .int .i64 er]) ∧ Below w.heap.size w w'

theorem drop_get (l : List Wd) (k : Nat) (h : k < l.length) : l.drop k = Wd.get l k :: l.drop (k + 1) := by
  rw [List.drop_eq_getElem_cons h]
  simp [Wd.get, List.getD, List.getElem?_eq_getElem h]
theorem fres_ok {op : Int → Int → Int} {acc : Int} {l : List Wd} {k : Nat} {x : Wd} (h : k < l.length) (hf : fres op acc l = fres op x.val (l.drop k)) {v : Int} (hv : v = op x.val (Wd.get l k).val) (h0 : -M256 < v) (h1 : v < M256) : fres op acc l = fres op v (l.drop (k + 1)) := by
  rw [hf, drop_get l k h]
  subst hv
  simp only [fres]
  rw [if_pos ⟨h0, h1⟩]
theorem fres_no {op : Int → Int → Int} {acc : Int} {l : List Wd} {k : Nat} {x : Wd} (h : k < l.length) (hf : fres op acc l = fres op x.val (l.drop k)) (hv : op x.val (Wd.get l k).val ≤ -M256 ∨ M256 ≤ op x.val (Wd.get l k).val) : fres op acc l = none := by
  rw [hf, drop_get l k h]
  simp only [fres]
  rw [if_neg (by omega)]

/-- the slice's Wides in memory -/
def WidesAt (W : World) (g o : Nat) (l : List Wd) : Prop := ∀ i, i < l.length → At5 W g (o + i * 5) (Wd.get l i) ∧ (Wd.get l i).ok

/-- ahead of round k -/
def FoldR (op : Int → Int → Int) (acc : Int) (l : List Wd) (w : World) (kv : Value) (W : World) : Prop :=
  ∃ (k : Nat) (x : Wd), k ≤ l.length ∧ kv = .int .i64 k ∧ x.ok ∧ Norm x.m x.a x.b x.c x.d ∧ fres op acc l = fres op x.val (l.drop k) ∧
    At5 W (w.heap.size + 1 + 1) 0 x ∧ Free5 W (w.heap.size + 1 + 1) 0 ∧ At5 W (w.heap.size + 1) 0 ⟨false, 0, 0, 0, 0⟩ ∧ Free5 W (w.heap.size + 1) 0 ∧ Below w.heap.size w W

set_option maxHeartbeats 4000000 in
set_option maxRecDepth 100000 in
theorem fold_c (f : Nat) (op : Int → Int → Int) (hf : ∀ (m n : Bool) (a b c d x y z u : Int), In4 a b c d → In4 x y z u → ∀ w : World, Calls Try.prog f #[(.agg #[.bool m, .int .u64 a, .int .u64 b, .int .u64 c, .int .u64 d]), (.agg #[.bool n, .int .u64 x, .int .u64 y, .int .u64 z, .int .u64 u])] w (WideP (op (WV m a b c d) (WV n x y z u)) w))
    (he : ∀ args (w : World), (callFunc f args).run Try.prog w = .ok (.enter f args) w)
    (m : Bool) (a b c d : Int) (hA : In4 a b c d) (hN : Norm m a b c d) (g o n cap : Nat) (l : List Wd) (hn : l.length = n) (hbig : n ≤ 4611686018427387904) (w : World) (hl : WidesAt w g o l) :
    Calls Try.prog 73 #[(.agg #[.bool m, .int .u64 a, .int .u64 b, .int .u64 c, .int .u64 d]), .slice (some ⟨g, o, none⟩) n cap, .func (.func f) #[] #[]] w (FoldP op (WV m a b c d) l w) := by
  have HF := Lib.hid hf
  have HL := Lib.hid hl
  have HN := Lib.hid hN
  have HA := Lib.hid hA
  clear hf hl hN hA
  subst hn
  go_enter Try.func73, Try.ntmps73
  go_wp2
  go_loopw [16] (fun kv W => FoldR op (WV m a b c d) l w kv W) (fun kv _ => l.length - (intOf kv).toNat)
  case atStart =>
    refine ⟨0, ⟨m, a, b, c, d⟩, by omega, rfl, HA.out, HN.out, rfl, ?_, ?_, ?_, ?_, by repeat (first | (with_reducible exact Below.refl _ _) | (with_reducible refine bl_alloc ?_ _) | (with_reducible refine Below.drew ?_) | (with_reducible refine below_drewN' ?_ _) | ((with_reducible refine bl_set ?_ ?_ _); (rotate_left; (dsimp only; omega))))⟩
    all_goals (constructor <;> simp [go_sem])
  case round =>
    obtain ⟨k, x, hk, rfl, hx, hxn, hfr, t1, t2, r1, r2, hb⟩ := hrel
    by_cases hlt : k < l.length
    · have hg := (HL.out k hlt).1
      have hgl := hg.lt
      have hg' := hg.below hb hgl
      obtain ⟨g0, g1, g2, g3, g4⟩ := hg'
      have ht1 := t1.lt
      have Ht1 := Lib.hid t1
      obtain ⟨t1a, t1b, t1c, t1d, t1e⟩ := t1
      have Ht2 := Lib.hid t2
      have Hr := Lib.hid (And.intro r1 r2)
      have Hb := Lib.hid hb
      have Hfr := Lib.hid hfr
      have Hx := Lib.hid (And.intro hx hxn)
      clear t2 r1 r2 hb hfr hx hxn hg
      simp only [Nat.zero_add] at t1b t1c t1d t1e
      have hz1 : w.heap.size + 1 + 1 < wr.heap.size := ht1
      have hz2 : w.heap.size + 1 + 1 < wr.heap.size + 1 := by omega
      go_wp2_with fail
      refine (HF.out x.m (Wd.get l k).m x.a x.b x.c x.d (Wd.get l k).a (Wd.get l k).b (Wd.get l k).c (Wd.get l k).d Hx.out.1 (HL.out k hlt).2 _).mono ?_
      rintro e w1 ⟨m', s0, s1, s2, s3, er, hs, hv, rfl, hb1⟩
      have T1 := (Ht1.out.alloc (.cells #[.bool (Wd.get l k).m, .int .u64 (Wd.get l k).a, .int .u64 (Wd.get l k).b, .int .u64 (Wd.get l k).c, .int .u64 (Wd.get l k).d] 80)).below hb1 (by simp; omega)
      have T2 := (Ht2.out.alloc hz1 (.cells #[.bool (Wd.get l k).m, .int .u64 (Wd.get l k).a, .int .u64 (Wd.get l k).b, .int .u64 (Wd.get l k).c, .int .u64 (Wd.get l k).d] 80)).below hb1 (by simp; omega)
      have R1 := (Hr.out.1.alloc (.cells #[.bool (Wd.get l k).m, .int .u64 (Wd.get l k).a, .int .u64 (Wd.get l k).b, .int .u64 (Wd.get l k).c, .int .u64 (Wd.get l k).d] 80)).below hb1 (by simp; omega)
      have R2 := (Hr.out.2.alloc (by omega) (.cells #[.bool (Wd.get l k).m, .int .u64 (Wd.get l k).a, .int .u64 (Wd.get l k).b, .int .u64 (Wd.get l k).c, .int .u64 (Wd.get l k).d] 80)).below hb1 (by simp; omega)
      have HW := Lib.hid (And.intro T1 (And.intro T2 (And.intro R1 R2)))
      have HB : Below w.heap.size w w1 := bl_trans (bl_alloc Hb.out _) hb1
      have Hb1 := Lib.hid HB
      have hs1 := T1.lt
      rcases hv.out with ⟨rfl, hv1⟩ | ⟨rfl, ⟨rfl, rfl, rfl, rfl, rfl⟩, hv1⟩
      · obtain ⟨c0, c1, c2, c3, c4⟩ := T1
        obtain ⟨f0, f1, f2, f3, f4⟩ := T2
        simp only [Nat.zero_add] at c1 c2 c3 c4 f1 f2 f3 f4
        have Hv := Lib.hid hv1
        clear hv1 hv hb1 R1 R2 HB g0 g1 g2 g3 g4 t1a t1b t1c t1d t1e Ht1 Ht2 Hr Hb
        go_wp2
        go_roundw
        case rel =>
          refine ⟨k + 1, ⟨m', s0, s1, s2, s3⟩, by omega, by go_num, hs, Hv.out.2.1, fres_ok (v := WV m' s0 s1 s2 s3) hlt Hfr.out Hv.out.1 (by rw [Hv.out.1]; exact Hv.out.2.2.1) (by rw [Hv.out.1]; exact Hv.out.2.2.2), ?_, ?_, ?_, ?_, ?_⟩
          · first | exact (HW.out.1.store m' s0 s1 s2 s3).alloc _ | exact (HW.out.1.alloc _).store m' s0 s1 s2 s3
          · first | exact (HW.out.2.1.store m' s0 s1 s2 s3).alloc (HW.out.1.store m' s0 s1 s2 s3).lt _ | exact (HW.out.2.1.alloc hs1 _).store m' s0 s1 s2 s3
          · first | exact (HW.out.2.2.1.store_far (by omega) m' s0 s1 s2 s3).alloc _ | exact (HW.out.2.2.1.alloc _).store_far (by omega) m' s0 s1 s2 s3
          · first | exact (HW.out.2.2.2.store m' s0 s1 s2 s3).alloc (HW.out.2.2.1.store_far (by omega) m' s0 s1 s2 s3).lt _ | exact (HW.out.2.2.2.alloc HW.out.2.2.1.lt _).store m' s0 s1 s2 s3
          · have := Hb1.out
            repeat (first | (with_reducible exact Below.refl _ _) | (with_reducible refine bl_alloc ?_ _) | (with_reducible refine Below.drew ?_) | (with_reducible refine below_drewN' ?_ _) | ((with_reducible refine bl_set ?_ ?_ _); (rotate_left; (dsimp only; omega))))
            exact this
        case measure => simp [intOf]; omega
      · obtain ⟨c0, c1, c2, c3, c4⟩ := R1
        obtain ⟨f0, f1, f2, f3, f4⟩ := R2
        simp only [Nat.zero_add] at c1 c2 c3 c4 f1 f2 f3 f4
        have Hv := Lib.hid hv1
        clear hv1 hv hb1 T1 T2 HB g0 g1 g2 g3 g4 t1a t1b t1c t1d t1e Ht1 Ht2 Hr Hb
        have hs2 : w.heap.size + 1 < w1.heap.size := by omega
        go_wp2
        refine bodyPost_ret (v := .tuple #[(.agg #[.bool false, .int .u64 0, .int .u64 0, .int .u64 0, .int .u64 0]), .int .i64 10]) (by simp [results, Try.results73, go_sem, c0, c1, c2, c3, c4, hs2]) rfl ⟨false, 0, 0, 0, 0, 10, in4_zero, Or.inr ⟨rfl, ⟨rfl, rfl, rfl, rfl, rfl⟩, ?_⟩, rfl, ?_⟩
        · exact fres_no hlt Hfr.out Hv.out
        · have := Hb1.out
          repeat (first | (with_reducible exact Below.refl _ _) | (with_reducible refine bl_alloc ?_ _) | (with_reducible refine Below.drew ?_) | (with_reducible refine below_drewN' ?_ _) | ((with_reducible refine bl_set ?_ ?_ _); (rotate_left; (dsimp only; omega))))
          exact this
    · obtain rfl : k = l.length := by omega
      have H1 := Lib.hid (And.intro t1 (And.intro r1 (And.intro hx (And.intro hxn (And.intro hfr hb)))))
      have hs1 := t1.lt
      have hs2 := r1.lt
      obtain ⟨t1a, t1b, t1c, t1d, t1e⟩ := t1
      obtain ⟨c0, c1, c2, c3, c4⟩ := r1
      obtain ⟨f0, f1, f2, f3, f4⟩ := r2
      simp only [Nat.zero_add] at c1 c2 c3 c4 f1 f2 f3 f4 t1b t1c t1d t1e
      clear hx hxn hfr hb t2
      go_wp2
      refine bodyPost_ret (v := .tuple #[(.agg #[.bool x.m, .int .u64 x.a, .int .u64 x.b, .int .u64 x.c, .int .u64 x.d]), .int .i64 0]) (by simp [results, Try.results73, go_sem, c0, c1, c2, c3, c4]) rfl ⟨x.m, x.a, x.b, x.c, x.d, 0, H1.out.2.2.1, Or.inl ⟨rfl, ?_, H1.out.2.2.2.1⟩, rfl, ?_⟩
      · rw [H1.out.2.2.2.2.1]
        simp [fres, Wd.val]
      · have := H1.out.2.2.2.2.2
        repeat (first | (with_reducible exact Below.refl _ _) | (with_reducible refine bl_alloc ?_ _) | (with_reducible refine Below.drew ?_) | (with_reducible refine below_drewN' ?_ _) | ((with_reducible refine bl_set ?_ ?_ _); (rotate_left; (dsimp only; omega))))
        exact this
end Go.Proofs.Ytkidphekfnmhhaa
