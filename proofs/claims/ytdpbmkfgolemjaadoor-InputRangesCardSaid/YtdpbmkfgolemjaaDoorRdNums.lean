/-
  An input's words: what is read of them, number by number.
-/
import Derived.Test.YtdpbmkfgolemjaaDoorOpMath
import Derived.Test.YtdpbmkfgolemjaaDoorOpRds
set_option linter.unusedVariables false
set_option linter.unusedSimpArgs false
set_option linter.deprecated false
namespace Go.Proofs.YtdpbmkfgolemjaaDoor

/-- the number of a word between two bounds, or its error -/
def num5 (lo hi : Int) (t : List Int) : Int × Int := if validB6 t = true then (if lo ≤ sgZ6 t ∧ sgZ6 t ≤ hi then (sgZ6 t, 0) else (0, 10)) else (0, 11)
theorem num_prog5 {t : List Int} {lo hi v er : Int} (hl : lo = 0 ∨ lo = - hi) (h : NumSpec t hi v er) : (er = 0 ∧ ¬ v < lo ∧ num5 lo hi t = (v, 0)) ∨ (er = 0 ∧ v < lo ∧ num5 lo hi t = (0, 10)) ∨ ((er = 10 ∨ er = 11) ∧ num5 lo hi t = (0, er)) := by
  rcases h with ⟨rfl, h0, h⟩ | ⟨rfl, h0, h, h1⟩ | ⟨rfl, h, h1, rfl⟩
  · exact .inr (.inr ⟨.inr rfl, by unfold num5; rw [if_neg (fun e => h ((validB_iff6 t).1 e))]⟩)
  · refine .inr (.inr ⟨.inl rfl, ?_⟩)
    have h0 := valid_nonneg6 h
    unfold num5
    rw [if_pos ((validB_iff6 t).2 h), if_neg]
    unfold sgZ6
    split <;> omega
  · have h0 := valid_nonneg6 h
    have e : num5 lo hi t = if lo ≤ sgZ6 t ∧ sgZ6 t ≤ hi then (sgZ6 t, 0) else (0, 10) := by unfold num5; rw [if_pos ((validB_iff6 t).2 h)]
    have hh : sgZ6 t ≤ hi := by unfold sgZ6; split <;> omega
    by_cases hs : lo ≤ sgZ6 t
    · refine .inl ⟨rfl, ?_, by rw [e, if_pos ⟨hs, hh⟩]; rfl⟩
      unfold sgZ6 at hs
      omega
    · refine .inr (.inl ⟨rfl, ?_, by rw [e, if_neg (fun x => hs x.1)]⟩)
      unfold sgZ6 at hs
      omega
theorem num_doc5 {t : List Int} {lo hi v er : Int} (hl : -9223372036854775807 ≤ lo) (hh : hi ≤ 9223372036854775807) (h : NumSpec t 9223372036854775807 v er) : (er = 0 ∧ lo ≤ v ∧ v ≤ hi ∧ num5 lo hi t = (v, 0)) ∨ (er = 0 ∧ (v < lo ∨ hi < v) ∧ num5 lo hi t = (0, 10)) ∨ ((er = 10 ∨ er = 11) ∧ num5 lo hi t = (0, er)) := by
  rcases h with ⟨rfl, h0, h⟩ | ⟨rfl, h0, h, h1⟩ | ⟨rfl, h, h1, rfl⟩
  · exact .inr (.inr ⟨.inr rfl, by unfold num5; rw [if_neg (fun e => h ((validB_iff6 t).1 e))]⟩)
  · refine .inr (.inr ⟨.inl rfl, ?_⟩)
    unfold num5
    rw [if_pos ((validB_iff6 t).2 h), if_neg]
    unfold sgZ6
    split <;> omega
  · have e : num5 lo hi t = if lo ≤ sgZ6 t ∧ sgZ6 t ≤ hi then (sgZ6 t, 0) else (0, 10) := by unfold num5; rw [if_pos ((validB_iff6 t).2 h)]
    by_cases hs : lo ≤ sgZ6 t ∧ sgZ6 t ≤ hi
    · exact .inl ⟨rfl, hs.1, hs.2, by rw [e, if_pos hs]; rfl⟩
    · refine .inr (.inl ⟨rfl, ?_, by rw [e, if_neg hs]⟩)
      unfold sgZ6 at hs
      omega
/-- what is left to read, and the first wrong word -/
structure S5 where
  ts : List (Nat × ByteArray)
  at' : Int
  e : Int
def take5 (en : Nat) : List (Nat × ByteArray) → (Nat × ByteArray) × List (Nat × ByteArray)
  | [] => ((en, ⟨#[]⟩), [])
  | x :: r => (x, r)
def word5 (en : Nat) (want : List Int) (s : S5) : S5 := if s.e ≠ 0 then s else if nums (take5 en s.ts).1.2 = want then ⟨(take5 en s.ts).2, s.at', 0⟩ else ⟨(take5 en s.ts).2, ((take5 en s.ts).1.1 : Nat), 11⟩
/-- one number: 0 where nothing is read -/
def rd5 (en : Nat) (lo hi : Int) (s : S5) : Int × S5 := if s.e ≠ 0 then (0, s) else if (num5 lo hi (nums (take5 en s.ts).1.2)).2 = 0 then ((num5 lo hi (nums (take5 en s.ts).1.2)).1, ⟨(take5 en s.ts).2, s.at', 0⟩) else (0, ⟨(take5 en s.ts).2, ((take5 en s.ts).1.1 : Nat), (num5 lo hi (nums (take5 en s.ts).1.2)).2⟩)
def rdN5 (en : Nat) (lo hi : Int) : Nat → S5 → List Int × S5
  | 0, s => ([], s)
  | k + 1, s => ((rd5 en lo hi s).1 :: (rdN5 en lo hi k (rd5 en lo hi s).2).1, (rdN5 en lo hi k (rd5 en lo hi s).2).2)
theorem rdN_len5 (en : Nat) (lo hi : Int) : ∀ (k : Nat) (s : S5), (rdN5 en lo hi k s).1.length = k
  | 0, _ => rfl
  | k + 1, s => by simp [rdN5, rdN_len5 en lo hi k]
theorem rdN_bad5 (en : Nat) (lo hi : Int) {s : S5} (h : s.e ≠ 0) : ∀ (k : Nat), rdN5 en lo hi k s = (List.replicate k 0, s)
  | 0 => rfl
  | k + 1 => by
    have e : rd5 en lo hi s = (0, s) := by unfold rd5; rw [if_pos h]
    simp only [rdN5, e, rdN_bad5 en lo hi h k, List.replicate_succ]
theorem rdN_step5 {en : Nat} {lo hi : Int} {k i : Nat} {si fin : S5} {vals : List Int} (hi' : i < k) (h : rdN5 en lo hi (k - i) si = (vals.drop i, fin)) : vals.getD i 0 = (rd5 en lo hi si).1 ∧ rdN5 en lo hi (k - (i + 1)) (rd5 en lo hi si).2 = (vals.drop (i + 1), fin) := by
  obtain ⟨d, hd⟩ : ∃ d, k - i = d + 1 := ⟨k - i - 1, by omega⟩
  have hd2 : k - (i + 1) = d := by omega
  rw [hd] at h
  rw [hd2]
  simp only [rdN5, Prod.mk.injEq] at h
  obtain ⟨h1, h2⟩ := h
  have e1 : vals.drop (i + 1) = (vals.drop i).tail := by rw [List.tail_drop]
  refine ⟨?_, ?_⟩
  · have : (vals.drop i)[0]? = some (rd5 en lo hi si).1 := by rw [← h1]; rfl
    rw [List.getElem?_drop, Nat.add_zero] at this
    simp [List.getD_eq_getElem?_getD, this]
  · rw [e1, ← h1, ← h2]
    rfl
theorem rdN_stop5 {en : Nat} {lo hi : Int} {k i : Nat} {si fin : S5} {vals : List Int} (he : si.e ≠ 0) (h : rdN5 en lo hi (k - i) si = (vals.drop i, fin)) : fin = si ∧ ∀ j, i ≤ j → vals.getD j 0 = 0 := by
  rw [rdN_bad5 en lo hi he] at h
  obtain ⟨h1, h2⟩ := Prod.mk.injEq .. ▸ h
  refine ⟨h2.symm, fun j hj => ?_⟩
  have e : vals[j]? = (vals.drop i)[j - i]? := by rw [List.getElem?_drop]; congr 1; omega
  rw [List.getD_eq_getElem?_getD, e, ← h1, List.getElem?_replicate]
  split <;> rfl
theorem rdN_done5 {en : Nat} {lo hi : Int} {k : Nat} {si fin : S5} {l : List Int} (h : rdN5 en lo hi (k - k) si = (l, fin)) : fin = si := by
  rw [Nat.sub_self] at h
  exact (Prod.mk.injEq .. ▸ h).2.symm
theorem rd_ok5 {en a : Nat} {lo hi v : Int} {s : S5} {t : ByteArray} {r : List (Nat × ByteArray)} (h0 : s.e = 0) (hx : take5 en s.ts = ((a, t), r)) (h : num5 lo hi (nums t) = (v, 0)) : rd5 en lo hi s = (v, ⟨r, s.at', 0⟩) := by
  unfold rd5
  rw [if_neg (fun x => x h0), hx, h]
  rfl
theorem rd_no5 {en a : Nat} {lo hi er : Int} {s : S5} {t : ByteArray} {r : List (Nat × ByteArray)} (h0 : s.e = 0) (hx : take5 en s.ts = ((a, t), r)) (her : er ≠ 0) (h : num5 lo hi (nums t) = (0, er)) : rd5 en lo hi s = (0, ⟨r, a, er⟩) := by
  unfold rd5
  rw [if_neg (fun x => x h0), hx, h]
  exact if_neg her
/-- pairs of numbers -/
def rdP5 (en : Nat) (lo hi : Int) : Nat → S5 → List (Int × Int) × S5
  | 0, s => ([], s)
  | k + 1, s => (((rd5 en lo hi s).1, (rd5 en lo hi (rd5 en lo hi s).2).1) :: (rdP5 en lo hi k (rd5 en lo hi (rd5 en lo hi s).2).2).1, (rdP5 en lo hi k (rd5 en lo hi (rd5 en lo hi s).2).2).2)
theorem rdP_len5 (en : Nat) (lo hi : Int) : ∀ (k : Nat) (s : S5), (rdP5 en lo hi k s).1.length = k
  | 0, _ => rfl
  | k + 1, s => by simp [rdP5, rdP_len5 en lo hi k]
theorem rdP_step5 {en : Nat} {lo hi : Int} {k i : Nat} {si fin : S5} {vals : List (Int × Int)} (hi' : i < k) (h : rdP5 en lo hi (k - i) si = (vals.drop i, fin)) :
    ∃ a b s2, rdN5 en lo hi 2 si = ([a, b], s2) ∧ vals.take (i + 1) = vals.take i ++ [(a, b)] ∧ rdP5 en lo hi (k - (i + 1)) s2 = (vals.drop (i + 1), fin) := by
  obtain ⟨d, hd⟩ : ∃ d, k - i = d + 1 := ⟨k - i - 1, by omega⟩
  have hd2 : k - (i + 1) = d := by omega
  rw [hd] at h
  rw [hd2]
  simp only [rdP5, Prod.mk.injEq] at h
  obtain ⟨h1, h2⟩ := h
  have e1 : vals.drop (i + 1) = (vals.drop i).tail := by rw [List.tail_drop]
  refine ⟨_, _, _, rfl, ?_, ?_⟩
  · have : (vals.drop i)[0]? = some ((rd5 en lo hi si).1, (rd5 en lo hi (rd5 en lo hi si).2).1) := by rw [← h1]; rfl
    rw [List.getElem?_drop, Nat.add_zero] at this
    rw [List.take_add_one, this]
    rfl
  · rw [e1, ← h1, ← h2]
    rfl
theorem take_sub5 (en : Nat) (l : List (Nat × ByteArray)) : (take5 en l).2 = l.tail := by cases l <;> rfl
theorem rd_bounds5 (en : Nat) (lo hi : Int) (h : lo ≤ 0) (h2 : 0 ≤ hi) (s : S5) : lo ≤ (rd5 en lo hi s).1 ∧ (rd5 en lo hi s).1 ≤ hi := by
  unfold rd5
  split
  · exact ⟨h, h2⟩
  · split
    · rename_i hz
      revert hz
      unfold num5
      split
      · split
        · rename_i hh
          exact fun _ => hh
        · intro hz; cases hz
      · intro hz; cases hz
    · exact ⟨h, h2⟩
def wPoly5 : List Int := [112, 111, 108, 121]
/-- the whole of an input: what the program reads -/
structure Q5 where
  p : List (Int × Int)
  l : List (Int × Int)
  i : List (Int × Int)
def head5 (en : Nat) (s : S5) : Int × S5 := rd5 en 0 200 (word5 en wPoly5 s)
def two5 (en : Nat) (s : S5) : (Int × Int) × S5 := (((rd5 en 0 400 s).1, (rd5 en 0 400 (rd5 en 0 400 s).2).1), (rd5 en 0 400 (rd5 en 0 400 s).2).2)
def body5 (en : Nat) (x y z : Int) (s : S5) : Q5 × S5 :=
  let p := rdP5 en (-1048576) 1048576 x.toNat s
  let l := rdP5 en 0 (x - 1) y.toNat p.2
  let i := rdP5 en 0 (x - 1) z.toNat l.2
  (⟨p.1, l.1, i.1⟩, word5 en [] i.2)
def poly5 (en : Nat) (s : S5) : Q5 × S5 :=
  let a := head5 en s
  let b := two5 en a.2
  body5 en a.1 b.1.1 b.1.2 b.2
theorem head_bounds5 (en : Nat) (s : S5) : 0 ≤ (head5 en s).1 ∧ (head5 en s).1 ≤ 200 := rd_bounds5 en 0 200 (by decide) (by decide) _
theorem two_bounds5 (en : Nat) (s : S5) : (0 ≤ (two5 en s).1.1 ∧ (two5 en s).1.1 ≤ 400) ∧ 0 ≤ (two5 en s).1.2 ∧ (two5 en s).1.2 ≤ 400 := ⟨rd_bounds5 en 0 400 (by decide) (by decide) _, rd_bounds5 en 0 400 (by decide) (by decide) _⟩
end Go.Proofs.YtdpbmkfgolemjaaDoor

/-
  The reader of an input's words in memory; its smallest methods.
-/
namespace Go.Proofs.YtdpbmkfgolemjaaDoor
open Go.RowKit

theorem Var.put5 {W : World} {g : Nat} {vs : List Value} (h : Var W g vs) {i : Nat} (hi : i < vs.length) (x : Value) : Var (W.setCell ⟨g, i, none⟩ x) g (vs.set i x) :=
  ⟨by simpa using h.lt, fun j hj => by
    rw [List.getElem_set]
    rw [List.length_set] at hj
    split
    · rename_i e
      subst e
      exact World.cell?_setCell_same _ _ _ (h.cells i hi)
    · rename_i e
      rw [World.cell?_setCell_other _ _ _ _ (by intro e2; injection e2 with e3 e4; exact e e4)]
      exact h.cells j hj, fun j hj => by
    rw [List.length_set] at hj
    simpa using h.free j hj⟩
/-- nothing but the blocks of P has changed -/
structure Chg5 (P : Nat → Prop) (w W : World) : Prop where
  os : W.os = w.os
  tape : W.tape = w.tape
  output : W.output = w.output
  size : w.heap.size ≤ W.heap.size
  block : ∀ k, k < w.heap.size → ¬ P k → W.heap[k]? = w.heap[k]?
theorem Chg5.refl (P : Nat → Prop) (w : World) : Chg5 P w w := ⟨rfl, rfl, rfl, Nat.le_refl _, fun _ _ _ => rfl⟩
theorem Chg5.trans {P Q : Nat → Prop} {a b c : World} (h : Chg5 P a b) (k : Chg5 Q b c) (hq : ∀ k, k < a.heap.size → Q k → P k) : Chg5 P a c :=
  ⟨k.os.trans h.os, k.tape.trans h.tape, k.output.trans h.output, Nat.le_trans h.size k.size, fun i hi hp => (k.block i (Nat.lt_of_lt_of_le hi h.size) (fun e => hp (hq i hi e))).trans (h.block i hi hp)⟩
theorem Chg5.below {P : Nat → Prop} {a b c : World} (h : Chg5 P a b) (k : Below b.heap.size b c) : Chg5 P a c :=
  ⟨k.os.trans h.os, k.tape.trans h.tape, k.output.trans h.output, Nat.le_trans h.size k.size, fun i hi hp => (k.block i (Nat.lt_of_lt_of_le hi h.size)).trans (h.block i hi hp)⟩
theorem Chg5.set {P : Nat → Prop} {a b : World} (h : Chg5 P a b) (p : Addr) (u : Value) (hp : P p.block ∨ a.heap.size ≤ p.block) : Chg5 P a (b.setCell p u) :=
  ⟨h.os, h.tape, h.output, by simpa [World.setCell] using h.size, fun i hi hn => (Below.heap_setCell _ _ _ _ (fun e => by subst e; rcases hp with hp | hp; exact hn hp; omega)).trans (h.block i hi hn)⟩
theorem Chg5.alloc {P : Nat → Prop} {a b : World} (h : Chg5 P a b) (o : Obj) : Chg5 P a (b.alloc o) :=
  h.below (bl_one b o)
theorem Chg5.drew {P : Nat → Prop} {a b : World} (h : Chg5 P a b) : Chg5 P a b.drew := ⟨h.os, h.tape, h.output, h.size, h.block⟩
theorem Chg5.toBelow {P : Nat → Prop} {B : Nat} {a b : World} (h : Chg5 P a b) (hB : B ≤ a.heap.size) (hp : ∀ k, k < B → ¬ P k) : Below B a b := ⟨h.os, h.tape, h.output, h.size, fun k hk => h.block k (by omega) (hp k hk)⟩
theorem Chg5.cell {P : Nat → Prop} {a b : World} (h : Chg5 P a b) {p : Addr} (hl : p.block < a.heap.size) (hp : ¬ P p.block) : b.cell? p = a.cell? p := World.cell?_of_block (w := a) (h.block p.block hl hp)
theorem Chg5.var {P : Nat → Prop} {a b : World} (h : Chg5 P a b) {g : Nat} {vs : List Value} (hv : Var a g vs) (hp : ¬ P g) : Var b g vs :=
  ⟨Nat.lt_of_lt_of_le hv.lt h.size, fun i hi => (h.cell (p := ⟨g, i, none⟩) hv.lt hp).trans (hv.cells i hi), fun i hi => (World.frozen?_of_block (a := ⟨g, i, none⟩) (w := a) (h.block g hv.lt hp)).trans (hv.free i hi)⟩
theorem Var.chg5 {P : Nat → Prop} {a b : World} {g : Nat} {vs : List Value} (hv : Var a g vs) (h : Chg5 P a b) (hp : ¬ P g) : Var b g vs := h.var hv hp
/-- the reader's variable -/
def Rd5 (W : World) (g gt en : Nat) (s : S5) : Prop :=
  ∃ ad cap, Var W g [.slice ad s.ts.length cap, .int .i64 (en : Int), .int .i64 s.at', .int .i64 s.e] ∧ s.ts.length ≤ cap ∧ s.ts.length ≤ 20000 ∧ ∀ i (h : i < s.ts.length), ∃ o, ad = some ⟨gt, o, none⟩ ∧ W.cell? ⟨gt, o + i * 2, none⟩ = some (.int .i64 (s.ts[i].1 : Int)) ∧ W.cell? ⟨gt, o + i * 2 + 1, none⟩ = some (.string s.ts[i].2) ∧ s.ts[i].2.size ≤ 10000
theorem Rd5.lt {W : World} {g gt en : Nat} {s : S5} (h : Rd5 W g gt en s) : g < W.heap.size := by
  obtain ⟨ad, cap, h1, -⟩ := h
  exact h1.lt
theorem Rd5.chg {P : Nat → Prop} {W W' : World} {g gt en : Nat} {s : S5} (h : Rd5 W g gt en s) (hc : Chg5 P W W') (hg : ¬ P g) (ht : ¬ P gt) : Rd5 W' g gt en s := by
  obtain ⟨ad, cap, h1, h2, h3, h4⟩ := h
  refine ⟨ad, cap, h1.chg5 hc hg, h2, h3, fun i hi => ?_⟩
  obtain ⟨o, e, c0, c1, c2⟩ := h4 i hi
  exact ⟨o, e, (hc.cell (cell_lt c0) ht).trans c0, (hc.cell (cell_lt c1) ht).trans c1, c2⟩
theorem Rd5.below {W W' : World} {g gt en : Nat} {s : S5} (h : Rd5 W g gt en s) (hb : Below W.heap.size W W') : Rd5 W' g gt en s :=
  h.chg ((Chg5.refl (fun _ => False) W).below hb) id id
theorem Var.four5 {W : World} {g : Nat} {a b c d : Value} (h : Var W g [a, b, c, d]) : W.cell? ⟨g, 0, none⟩ = some a ∧ W.cell? ⟨g, 1, none⟩ = some b ∧ W.cell? ⟨g, 2, none⟩ = some c ∧ W.cell? ⟨g, 3, none⟩ = some d := ⟨h.cells 0 (by simp), h.cells 1 (by simp), h.cells 2 (by simp), h.cells 3 (by simp)⟩
theorem Var.free45 {W : World} {g : Nat} {a b c d : Value} (h : Var W g [a, b, c, d]) : W.frozen? ⟨g, 0, none⟩ = false ∧ W.frozen? ⟨g, 1, none⟩ = false ∧ W.frozen? ⟨g, 2, none⟩ = false ∧ W.frozen? ⟨g, 3, none⟩ = false := ⟨h.free 0 (by simp), h.free 1 (by simp), h.free 2 (by simp), h.free 3 (by simp)⟩
theorem add_plain5 (g o i : Nat) : (⟨g, o, none⟩ : Addr).add i = ⟨g, o + i, none⟩ := by unfold Addr.add; split <;> simp_all
/-- the first word is taken away -/
theorem Rd5.tail {W : World} {g gt en o cap : Nat} {x : Nat × ByteArray} {r : List (Nat × ByteArray)} {at' e : Int} (hne : gt ≠ g)
    (h1 : Var W g [.slice (some ⟨gt, o, none⟩) (x :: r).length cap, .int .i64 (en : Int), .int .i64 at', .int .i64 e]) (hcap : r.length + 1 ≤ cap) (hl : r.length + 1 ≤ 20000)
    (h4 : ∀ i (h : i < (x :: r).length), ∃ o1, some (⟨gt, o, none⟩ : Addr) = some ⟨gt, o1, none⟩ ∧ W.cell? ⟨gt, o1 + i * 2, none⟩ = some (.int .i64 ((x :: r)[i].1 : Int)) ∧ W.cell? ⟨gt, o1 + i * 2 + 1, none⟩ = some (.string (x :: r)[i].2) ∧ (x :: r)[i].2.size ≤ 10000)
    (ad : Option Addr) (hv : cap ≠ 1 → ad = some ⟨gt, o + 2, none⟩) : Rd5 (W.setCell ⟨g, 0, none⟩ (.slice ad r.length (cap - 1))) g gt en ⟨r, at', e⟩ := by
  refine ⟨ad, cap - 1, h1.put5 (i := 0) (by simp) _, by dsimp only; omega, by dsimp only; omega, fun i hi => ?_⟩
  dsimp only at hi
  obtain ⟨o1, ho, c0, c1, c2⟩ := h4 (i + 1) (by simp; omega)
  injection ho with ho
  injection ho with ho1 ho2
  subst ho2
  refine ⟨o + 2, hv (by omega), ?_, ?_, by simpa using c2⟩
  · rw [World.cell?_setCell_far _ _ _ _ (fun e => hne e.symm), show o + 2 + i * 2 = o + (i + 1) * 2 by omega, c0]
    simp
  · rw [World.cell?_setCell_far _ _ _ _ (fun e => hne e.symm), show o + 2 + i * 2 + 1 = o + (i + 1) * 2 + 1 by omega, c1]
    simp
set_option maxHeartbeats 4000000 in
set_option maxRecDepth 100000 in
theorem next_l (w : World) (g gt en : Nat) (s : S5) (hne : gt ≠ g) (hS : Rd5 w g gt en s) :
    Calls Tryd.prog 56 #[.pointer (some ⟨g, 0, none⟩)] w fun e W => e = .returned (.agg #[.int .i64 ((take5 en s.ts).1.1 : Nat), .string (take5 en s.ts).1.2]) ∧ Rd5 W g gt en ⟨(take5 en s.ts).2, s.at', s.e⟩ ∧ Chg5 (· = g) w W := by
  obtain ⟨ts, at', er⟩ := s
  obtain ⟨ad, cap, h1, h2, h3, h4⟩ := hS
  dsimp only at h1 h2 h3 h4 ⊢
  have HV := Lib.hid h1
  obtain ⟨v0, v1, v2, v3⟩ := h1.four5
  obtain ⟨f0, f1, f2, f3⟩ := h1.free45
  have hlt := h1.lt
  clear h1
  cases ts with
  | nil =>
    have HS : Hid (Rd5 w g gt en ⟨[], at', er⟩) := ⟨ad, cap, HV.out, h2, h3, h4⟩
    clear h4
    unfold take5
    dsimp only
    simp only [List.length_nil] at v0
    go_enter Tryd.func56, Tryd.ntmps56
    go_wp2_with fail
    refine bodyPost_ret (v := .agg #[.int .i64 en, .string ⟨#[]⟩]) (by simp [results, Tryd.results56, go_sem]; done) rfl ⟨rfl, ?_, ?_⟩
    · exact HS.out.below (by repeat (first | (with_reducible exact Below.refl _ _) | (with_reducible refine bl_alloc ?_ _) | (with_reducible refine Below.drew ?_) | (with_reducible refine below_drewN' ?_ _) | ((with_reducible refine bl_set ?_ ?_ _); (rotate_left; (dsimp only; omega)))))
    · exact (Chg5.refl _ _).below (by repeat (first | (with_reducible exact Below.refl _ _) | (with_reducible refine bl_alloc ?_ _) | (with_reducible refine Below.drew ?_) | (with_reducible refine below_drewN' ?_ _) | ((with_reducible refine bl_set ?_ ?_ _); (rotate_left; (dsimp only; omega)))))
  | cons x r =>
    obtain ⟨o, rfl, c0, c1, -⟩ := h4 0 (by simp)
    have H4 := Lib.hid h4
    clear h4
    unfold take5
    dsimp only
    simp only [List.length_cons] at v0 h2 h3
    rw [Nat.zero_mul, Nat.add_zero] at c0 c1
    simp only [List.getElem_cons_zero] at c0 c1
    have hgl : gt < w.heap.size := cell_lt c0
    go_enter Tryd.func56, Tryd.ntmps56
    by_cases hc1 : cap = 1
    · subst hc1
      obtain rfl : r = [] := List.length_eq_zero_iff.1 (by omega)
      have HT : Hid (Rd5 (w.setCell ⟨g, 0, none⟩ (.slice (some ⟨gt, o, none⟩) 0 0)) g gt en ⟨[], at', er⟩) := Rd5.tail hne HV.out h2 h3 H4.out (some ⟨gt, o, none⟩) (fun h => absurd rfl h)
      go_wp2_with fail
      refine bodyPost_ret (v := .agg #[.int .i64 x.1, .string x.2]) (by simp [results, Tryd.results56, go_sem]; done) rfl ⟨rfl, ?_, ?_⟩
      · exact HT.out.below (by repeat (first | (with_reducible exact Below.refl _ _) | (with_reducible refine bl_alloc ?_ _) | (with_reducible refine Below.drew ?_) | (with_reducible refine below_drewN' ?_ _) | ((with_reducible refine bl_set ?_ ?_ _); (rotate_left; (dsimp only; omega)))))
      · repeat (first | exact Chg5.refl _ _ | refine Chg5.set ?_ _ _ (.inl rfl) | refine Chg5.alloc ?_ _ | refine Chg5.drew ?_)
    · go_wp2_with fail
      refine bodyPost_ret (v := .agg #[.int .i64 x.1, .string x.2]) (by simp [results, Tryd.results56, go_sem]; done) rfl ⟨rfl, ?_, ?_⟩
      · exact (Rd5.tail hne HV.out h2 h3 H4.out (some ⟨gt, o + 2, none⟩) (fun _ => rfl)).below (by repeat (first | (with_reducible exact Below.refl _ _) | (with_reducible refine bl_alloc ?_ _) | (with_reducible refine Below.drew ?_) | (with_reducible refine below_drewN' ?_ _) | ((with_reducible refine bl_set ?_ ?_ _); (rotate_left; (dsimp only; omega)))))
      · repeat (first | exact Chg5.refl _ _ | refine Chg5.set ?_ _ _ (.inl rfl) | refine Chg5.alloc ?_ _ | refine Chg5.drew ?_)
set_option maxHeartbeats 4000000 in
set_option maxRecDepth 100000 in
theorem refuse_l (w : World) (g gt en : Nat) (s : S5) (hne : gt ≠ g) (hS : Rd5 w g gt en s) (at' e' : Int) :
    Calls Tryd.prog 57 #[.pointer (some ⟨g, 0, none⟩), .int .i64 at', .int .i64 e'] w fun e W => e = .returned (.tuple #[]) ∧ Rd5 W g gt en ⟨s.ts, at', e'⟩ ∧ Chg5 (· = g) w W := by
  obtain ⟨ts, a0, er⟩ := s
  obtain ⟨ad, cap, h1, h2, h3, h4⟩ := hS
  dsimp only at h1 h2 h3 h4 ⊢
  have HV := Lib.hid h1
  have H4 := Lib.hid h4
  obtain ⟨v0, v1, v2, v3⟩ := h1.four5
  obtain ⟨f0, f1, f2, f3⟩ := h1.free45
  have hlt := h1.lt
  clear h1 h4
  go_enter Tryd.func57, Tryd.ntmps57
  go_wp2_with fail
  go_end0
  refine ⟨rfl, ⟨ad, cap, (HV.out.put5 (i := 2) (by simp) (.int .i64 at')).put5 (i := 3) (by simp) (.int .i64 e'), h2, h3, fun i hi => ?_⟩, ?_⟩
  · obtain ⟨o, e, c0, c1, c2⟩ := H4.out i hi
    exact ⟨o, e, by rw [World.cell?_setCell_far _ _ _ _ (fun e => hne e.symm), World.cell?_setCell_far _ _ _ _ (fun e => hne e.symm)]; exact c0, by rw [World.cell?_setCell_far _ _ _ _ (fun e => hne e.symm), World.cell?_setCell_far _ _ _ _ (fun e => hne e.symm)]; exact c1, c2⟩
  · refine Chg5.set ?_ _ _ (.inl rfl)
    refine Chg5.set ?_ _ _ (.inl rfl)
    exact Chg5.refl _ _
theorem Rd5.size {W : World} {g gt en : Nat} {s : S5} (h : Rd5 W g gt en s) : (take5 en s.ts).1.2.size ≤ 10000 := by
  obtain ⟨ad, cap, h1, h2, h3, h4⟩ := h
  obtain ⟨ts, a, e⟩ := s
  cases ts with
  | nil => exact Nat.zero_le _
  | cons x r =>
    obtain ⟨o, e, c0, c1, c2⟩ := h4 0 (by simp)
    simpa [take5] using c2
/-- the last cell tells whether a word was wrong -/
theorem Rd5.open {W : World} {g gt en : Nat} {s : S5} (h : Rd5 W g gt en s) : W.cell? ⟨g, 2, none⟩ = some (.int .i64 s.at') ∧ W.cell? ⟨g, 3, none⟩ = some (.int .i64 s.e) := by
  obtain ⟨ad, cap, h1, -⟩ := h
  exact h1.four5.2.2
end Go.Proofs.YtdpbmkfgolemjaaDoor

/-
  The reader of an input's words: numbers into variables.
-/
namespace Go.Proofs.YtdpbmkfgolemjaaDoor
open Go.RowKit

def Tg5 (g : Nat) (ps : List (Nat × Nat)) (k : Nat) : Prop := k = g ∨ ∃ p ∈ ps, k = p.1
/-- the variables that numbers are read into -/
def Cs5 (W : World) (ps : List (Nat × Nat)) (vals : List Int) (i : Nat) : Prop :=
  ∀ j (h : j < ps.length), W.cell? ⟨ps[j].1, ps[j].2, none⟩ = some (.int .i64 (if j < i then vals.getD j 0 else 0)) ∧ W.frozen? ⟨ps[j].1, ps[j].2, none⟩ = false
theorem Cs5.chg {P : Nat → Prop} {W W' : World} {ps : List (Nat × Nat)} {vals : List Int} {i : Nat} (h : Cs5 W ps vals i) (hc : Chg5 P W W') (hp : ∀ p ∈ ps, ¬ P p.1) : Cs5 W' ps vals i := by
  intro j hj
  obtain ⟨h1, h2⟩ := h j hj
  have hn := hp _ (List.getElem_mem hj)
  have hl : ps[j].1 < W.heap.size := cell_lt h1
  exact ⟨(hc.cell (p := ⟨ps[j].1, ps[j].2, none⟩) hl hn).trans h1, (World.frozen?_of_block (a := ⟨ps[j].1, ps[j].2, none⟩) (w := W) (hc.block _ hl hn)).trans h2⟩
theorem Cs5.set {W : World} {ps : List (Nat × Nat)} {vals : List Int} {i : Nat} (h : Cs5 W ps vals i) (hi : i < ps.length) (hnd : ps.Nodup) {v : Int} (hv : vals.getD i 0 = v) : Cs5 (W.setCell ⟨ps[i].1, ps[i].2, none⟩ (.int .i64 v)) ps vals (i + 1) := by
  intro j hj
  obtain ⟨h1, h2⟩ := h j hj
  refine ⟨?_, by simpa using h2⟩
  by_cases e : j = i
  · subst e
    rw [World.cell?_setCell_same _ _ _ h1, if_pos (by omega), hv]
  · rw [World.cell?_setCell_other _ _ _ _ (by
      intro e2
      injection e2 with e3 e4
      rcases Nat.lt_or_gt_of_ne e with h | h
      · exact List.pairwise_iff_getElem.1 hnd j i hj hi h (Prod.ext (by first | exact e3 | exact e3.symm) (by first | exact e4 | exact e4.symm))
      · exact List.pairwise_iff_getElem.1 hnd i j hi hj h (Prod.ext (by first | exact e3 | exact e3.symm) (by first | exact e4 | exact e4.symm))), h1]
    by_cases hji : j < i
    · rw [if_pos hji, if_pos (by omega)]
    · rw [if_neg hji, if_neg (by omega)]
/-- the loop over the variables -/
structure NS5 (w : World) (g gt en : Nat) (ps : List (Nat × Nat)) (vals : List Int) (i : Nat) (si : S5) (W : World) : Prop where
  rd : Rd5 W g gt en si
  chg : Chg5 (Tg5 g ps) w W
  cs : Cs5 W ps vals i
set_option maxHeartbeats 8000000 in
set_option maxRecDepth 100000 in
theorem numbers_l5 (w : World) (g gt en gs so cap : Nat) (s : S5) (lo hi : Int) (hlo : lo = 0 ∨ lo = - hi) (hh0 : -1 ≤ hi) (hh1 : hi ≤ 2000000) (ps : List (Nat × Nat)) (hl : ps.length ≤ 100) (hnd : ps.Nodup) (hcap : ps.length ≤ cap)
    (hgt : gt ≠ g) (hgs : gs ≠ g) (hps : ∀ p ∈ ps, p.1 ≠ g ∧ p.1 ≠ gt ∧ p.1 ≠ gs) (hS : Rd5 w g gt en s) (hC : Cs5 w ps [] 0)
    (hP : ∀ i (h : i < ps.length), w.cell? ⟨gs, so + i, none⟩ = some (.pointer (some ⟨ps[i].1, ps[i].2, none⟩))) :
    Calls Tryd.prog 43 #[.pointer (some ⟨g, 0, none⟩), .int .i64 lo, .int .i64 hi, .slice (some ⟨gs, so, none⟩) ps.length cap] w fun e W => e = .returned (.tuple #[]) ∧ Rd5 W g gt en (rdN5 en lo hi ps.length s).2 ∧ Cs5 W ps (rdN5 en lo hi ps.length s).1 ps.length ∧ Chg5 (Tg5 g ps) w W := by
  have HLO := Lib.hid (And.intro hlo (And.intro hh0 hh1))
  have HN := Lib.hid (And.intro hgt (And.intro hgs hps))
  have HND := Lib.hid hnd
  have HPT := Lib.hid hP
  obtain ⟨V, hV⟩ : ∃ V, rdN5 en lo hi ps.length s = V := ⟨_, rfl⟩
  obtain ⟨vals, fin⟩ := V
  rw [hV]
  have HR0 : Hid (rdN5 en lo hi (ps.length - 0) s = (vals.drop 0, fin)) := hV
  have HVL : Hid (vals.length = ps.length) := by
    have := rdN_len5 en lo hi ps.length s
    rw [hV] at this
    exact this
  have HS0 : Hid (NS5 w g gt en ps vals 0 s w) := ⟨hS, Chg5.refl _ _, fun j hj => by
    have := hC j hj
    simpa using this⟩
  have CN := Lib.hid (fun W si (h : Rd5 W g gt en si) => next_l W g gt en si hgt h)
  have CR := Lib.hid (fun W si (h : Rd5 W g gt en si) a e => refuse_l W g gt en si hgt h a e)
  have CM := Lib.hid (fun (t : ByteArray) (h : t.size ≤ 10000) W => number_c t h hi (by omega) (by omega) W)
  have HCP := Lib.hid hcap
  clear hcap hlo hh0 hh1 hgt hgs hps hnd hP hV hS hC
  go_enter Tryd.func43, Tryd.ntmps43
  go_wp2_with fail
  go_loopw [15] (fun iv W => ∃ (i : Nat) (si : S5), iv = .int .i64 i ∧ i ≤ ps.length ∧ Hid (rdN5 en lo hi (ps.length - i) si = (vals.drop i, fin)) ∧ NS5 w g gt en ps vals i si W) (fun iv _ => ps.length + 1 - (intOf iv).toNat)
  case atStart => exact ⟨0, s, rfl, Nat.zero_le _, HR0.out, HS0.out⟩
  case round =>
    obtain ⟨i, si, rfl, hi', HX, hNS⟩ := hrel
    have HNS := Lib.hid hNS
    clear hNS HR0 HS0
    by_cases hlt : i < ps.length
    · have v3 := HNS.out.rd.open.2
      have hgsl : gs < w.heap.size := cell_lt (HPT.out i hlt)
      have hnP : ¬ Tg5 g ps gs := by
        rintro (h | ⟨p, hp, h⟩)
        · exact HN.out.2.1 h
        · exact (HN.out.2.2 p hp).2.2 h.symm
      have c0 := (HNS.out.chg.cell (p := ⟨gs, so + i, none⟩) hgsl hnP).trans (HPT.out i hlt)
      by_cases h0 : si.e = 0
      · rw [h0] at v3
        obtain ⟨hv, hx2⟩ := rdN_step5 hlt HX.out
        obtain ⟨⟨⟨a, t⟩, r⟩, hx⟩ : ∃ x, take5 en si.ts = x := ⟨_, rfl⟩
        have hsz := HNS.out.rd.size
        rw [hx] at hsz
        have HSZ := Lib.hid hsz
        have HX1 := Lib.hid hx
        have HX2 := Lib.hid hx2
        have HV := Lib.hid hv
        have H0 := Lib.hid h0
        have hpi := HN.out.2.2 _ (List.getElem_mem hlt)
        obtain ⟨hc1, hc2⟩ := HNS.out.cs i hlt
        have hpl : ps[i].1 < wr.heap.size := cell_lt hc1
        obtain ⟨⟨pb, po⟩, hpb⟩ : ∃ p, ps[i] = p := ⟨_, rfl⟩
        rw [hpb] at c0 hc1 hc2 hpl hpi
        dsimp only at c0 hc1 hc2 hpl hpi
        have HPB := Lib.hid hpb
        have HPI := Lib.hid hpi
        clear h0 hv hx2 hx hsz HX hnP hpb hpi
        go_wp2_with fail
        (with_reducible refine (CN.out _ _ HNS.out.rd).mono ?_)
        rintro e w1 ⟨rfl, hr1, hg1⟩
        rw [HX1.out, H0.out] at hr1
        rw [HX1.out]
        dsimp only
        have HR1 := Lib.hid hr1
        have HG1 := Lib.hid (HNS.out.chg.trans hg1 (fun _ _ h => .inl h))
        have HC1 := Lib.hid (HNS.out.cs.chg hg1 (fun p hp => (HN.out.2.2 p hp).1))
        have HB1 := Lib.hid (bl_one w1 (.cells #[.int .i64 a, .string t] 51))
        have HW1 : Hid (Var (w1.alloc (.cells #[.int .i64 a, .string t] 51)) w1.heap.size [.int .i64 (a : Int), .string t]) := var2_new _ _ _ _ _ rfl
        clear hr1 hg1 HNS hc1 hc2 hpl c0 v3
        go_wp2_with fail
        (with_reducible refine (CM.out t HSZ.out _).mono ?_)
        rintro e w3 ⟨v, er, rfl, hsp, hb3⟩
        have HSP := Lib.hid (num_prog5 HLO.out.1 hsp.out)
        have HR3 := Lib.hid ((HR1.out.below HB1.out).below hb3)
        have HC3 := Lib.hid ((HC1.out.chg ((Chg5.refl (fun _ => False) _).below HB1.out) (fun _ _ h => h)).chg ((Chg5.refl (fun _ => False) _).below hb3) (fun _ _ h => h))
        have HG3 := Lib.hid ((HG1.out.below HB1.out).below hb3)
        obtain ⟨t0, -⟩ := (HW1.out.below hb3).two
        obtain ⟨hc1, hc2⟩ := HC3.out i hlt
        rw [HPB.out] at hc1 hc2
        dsimp only at hc1 hc2
        clear hsp hb3 HR1 HC1 HG1 HB1 HW1
        rcases HSP.out with ⟨rfl, h1, h2⟩ | ⟨rfl, h1, h2⟩ | ⟨he, h2⟩
        · have HRD := Lib.hid (rd_ok5 H0.out HX1.out h2)
          clear h2 HSP
          go_wp2_with fail
          go_roundw
          case rel =>
            refine ⟨i + 1, ⟨r, si.at', 0⟩, by first | rfl | simp, hlt, ?_, ?_, ?_, ?_⟩
            · have := HX2.out
              rw [HRD.out] at this
              exact this
            · refine HR3.out.chg (P := (· = pb)) ?_ (fun e => HPI.out.1 e.symm) (fun e => HPI.out.2.1 e.symm)
              refine Chg5.set ?_ _ _ (.inl rfl)
              exact Chg5.refl _ _
            · refine HG3.out.set _ _ (.inl (.inr ⟨ps[i], List.getElem_mem hlt, ?_⟩))
              rw [HPB.out]
            · have := HC3.out.set (v := v) hlt HND.out (by have := HV.out; rw [HRD.out] at this; exact this)
              rw [HPB.out] at this
              exact this
          case measure => simp [intOf]; omega
        · have HRD := Lib.hid (rd_no5 H0.out HX1.out (by decide) h2)
          clear h2 HSP
          go_wp2_with fail
          (with_reducible refine (CR.out _ _ HR3.out _ _).mono ?_)
          rintro e w4 ⟨rfl, hr4, hg4⟩
          have HX3 := HX2.out
          have HV3 := HV.out
          rw [HRD.out] at HX3 HV3
          obtain ⟨rfl, hz⟩ := rdN_stop5 (show (10 : Int) ≠ 0 by decide) HX3
          have HZ : Hid (∀ j, i ≤ j → vals.getD j 0 = 0) := fun j hj => by
            by_cases e : j = i
            · rw [e]; exact HV3
            · exact hz j (by omega)
          have HR4 := Lib.hid hr4
          have HG4 := Lib.hid (HG3.out.trans hg4 (fun _ _ h => .inl h))
          have HC4 := Lib.hid (HC3.out.chg hg4 (fun p hp => (HN.out.2.2 p hp).1))
          clear hr4 hg4 HX3 HV3 hz HR3 HG3 HC3 t0 hc1 hc2
          go_wp2_with fail
          refine bodyPost_ret (results_none rfl _ _ _) rfl ⟨rfl, HR4.out, fun j hj => ?_, HG4.out⟩
          have := HC4.out j hj
          rw [if_pos hj]
          by_cases hji : j < i
          · rw [if_pos hji] at this; exact this
          · rw [if_neg hji] at this
            rw [HZ.out j (by omega)]
            exact this
        · have HRD := Lib.hid (rd_no5 H0.out HX1.out (by omega) h2)
          have HNZ : Hid (er ≠ 0) := show er ≠ 0 by omega
          have b5 : (er = 0) = False := eq_false (by omega)
          have b6 : (er == 0) = false := beq_eq_false_iff_ne.2 (by omega)
          have b7 : (er != 0) = true := bne_iff_ne.2 (by omega)
          clear h2 HSP he
          go_wp2_with fail
          (with_reducible refine (CR.out _ _ HR3.out _ _).mono ?_)
          rintro e w4 ⟨rfl, hr4, hg4⟩
          have HX3 := HX2.out
          have HV3 := HV.out
          rw [HRD.out] at HX3 HV3
          obtain ⟨rfl, hz⟩ := rdN_stop5 HNZ.out HX3
          have HZ : Hid (∀ j, i ≤ j → vals.getD j 0 = 0) := fun j hj => by
            by_cases e : j = i
            · rw [e]; exact HV3
            · exact hz j (by omega)
          have HR4 := Lib.hid hr4
          have HG4 := Lib.hid (HG3.out.trans hg4 (fun _ _ h => .inl h))
          have HC4 := Lib.hid (HC3.out.chg hg4 (fun p hp => (HN.out.2.2 p hp).1))
          clear hr4 hg4 HX3 HV3 hz HR3 HG3 HC3 t0 hc1 hc2
          go_wp2_with fail
          refine bodyPost_ret (results_none rfl _ _ _) rfl ⟨rfl, HR4.out, fun j hj => ?_, HG4.out⟩
          have := HC4.out j hj
          rw [if_pos hj]
          by_cases hji : j < i
          · rw [if_pos hji] at this; exact this
          · rw [if_neg hji] at this
            rw [HZ.out j (by omega)]
            exact this
      · obtain ⟨rfl, hz⟩ := rdN_stop5 h0 HX.out
        have b0 : (fin.e != 0) = true := bne_iff_ne.2 h0
        have b1 : (fin.e = 0) = False := eq_false h0
        have HZ := Lib.hid hz
        clear h0 hz hnP HX
        go_wp2_with fail
        refine bodyPost_ret (results_none rfl _ _ _) rfl ⟨rfl, HNS.out.rd, fun j hj => ?_, HNS.out.chg⟩
        have := HNS.out.cs j hj
        rw [if_pos hj]
        by_cases hji : j < i
        · rw [if_pos hji] at this; exact this
        · rw [if_neg hji] at this
          rw [HZ.out j (by omega)]
          exact this
    · obtain rfl : i = ps.length := by omega
      obtain rfl := rdN_done5 HX.out
      clear HX
      go_wp2_with fail
      go_end0
      exact ⟨rfl, HNS.out.rd, HNS.out.cs, HNS.out.chg⟩
end Go.Proofs.YtdpbmkfgolemjaaDoor

/-
  The reader of an input's words: a word that is wanted.
-/
namespace Go.Proofs.YtdpbmkfgolemjaaDoor
open Go.RowKit

set_option maxHeartbeats 4000000 in
set_option maxRecDepth 100000 in
theorem word_l5 (w : World) (g gt en : Nat) (s : S5) (want : ByteArray) (hne : gt ≠ g) (hS : Rd5 w g gt en s) :
    Calls Tryd.prog 42 #[.pointer (some ⟨g, 0, none⟩), .string want] w fun e W => e = .returned (.tuple #[]) ∧ Rd5 W g gt en (word5 en (nums want) s) ∧ Chg5 (· = g) w W := by
  have HS := Lib.hid hS
  obtain ⟨-, v3⟩ := hS.open
  have hlt := hS.lt
  clear hS
  have CN := Lib.hid (fun W (h : Rd5 W g gt en s) => next_l W g gt en s hne h)
  have CR := Lib.hid (fun W s (h : Rd5 W g gt en s) a e => refuse_l W g gt en s hne h a e)
  go_enter Tryd.func42, Tryd.ntmps42
  by_cases h0 : s.e = 0
  · rw [h0] at v3
    obtain ⟨R, hR⟩ : ∃ R, word5 en (nums want) s = R := ⟨_, rfl⟩
    rw [hR]
    have HR := Lib.hid hR
    clear hR
    obtain ⟨x, hx⟩ : ∃ x, take5 en s.ts = x := ⟨_, rfl⟩
    obtain ⟨⟨a, t⟩, r⟩ := x
    have HX := Lib.hid hx
    clear hx
    go_wp2_with fail
    refine (CN.out _ HS.out).mono ?_
    rintro e w1 ⟨rfl, hr1, hc1⟩
    rw [HX.out, h0] at hr1
    rw [HX.out]
    have HR1 := Lib.hid hr1
    have HC1 := Lib.hid hc1
    clear hr1 hc1
    dsimp only
    have HB1 := Lib.hid (bl_one w1 (.cells #[.int .i64 a, .string t] 51))
    by_cases hw : nums t = nums want
    · have b3 : (t.toList == want.toList) = true := by rw [nums_inj hw]; simp
      obtain rfl : R = ⟨r, s.at', 0⟩ := by rw [← HR.out]; unfold word5; rw [HX.out, if_neg (fun h => h h0), if_pos hw]
      clear HR HX hw h0
      go_wp2_with fail
      go_end0
      exact ⟨rfl, HR1.out.below HB1.out, HC1.out.below HB1.out⟩
    · have b3 : (t.toList == want.toList) = false := by rw [beq_eq_false_iff_ne]; exact fun e => hw (by unfold nums; rw [← ByteArray.toList_eq, ← ByteArray.toList_eq, e])
      obtain rfl : R = ⟨r, a, 11⟩ := by rw [← HR.out]; unfold word5; rw [HX.out, if_neg (fun h => h h0), if_neg hw]
      clear HR HX hw
      go_wp2_with fail
      (with_reducible refine (CR.out _ _ (HR1.out.below HB1.out) _ _).mono ?_)
      rintro e w2 ⟨rfl, hr2, hc2⟩
      have HR2 := Lib.hid hr2
      have HC2 := Lib.hid ((HC1.out.below HB1.out).trans hc2 (fun _ _ h => h))
      clear hr2 hc2
      go_wp2_with fail
      go_end0
      exact ⟨rfl, HR2.out, HC2.out⟩
  · have b0 : (s.e != 0) = true := bne_iff_ne.2 h0
    have b1 : (s.e = 0) = False := eq_false h0
    have e : word5 en (nums want) s = s := by unfold word5; rw [if_pos h0]
    rw [e]
    clear h0
    go_wp2_with fail
    refine bodyPost_ret (results_none rfl _ _ _) rfl ⟨rfl, HS.out, Chg5.refl _ _⟩
end Go.Proofs.YtdpbmkfgolemjaaDoor
