/-
  The walk of the law TokenComments.
-/
import Derived.Test.YtdpbmkfgolemjaaDoorComMath
import Derived.Test.YtdpbmkfgolemjaaDoorWhole0
import Derived.Maps.AppendAt
import Derived.Laws.AppendOwnNone
set_option linter.unusedVariables false
set_option linter.unusedSimpArgs false
set_option linter.deprecated false
namespace Go.Proofs.YtdpbmkfgolemjaaDoor
open Go.RowKit

def bv (l : List Int) : List Value := l.map fun d => .int .u8 d
theorem bv_len (l : List Int) : (bv l).length = l.length * 1 := by simp [bv]
theorem bv_one (l : List Int) : ∀ u ∈ bv l, u.oneCell' = true := by
  intro u hu
  simp [bv] at hu
  obtain ⟨d, -, rfl⟩ := hu
  rfl
theorem info_byte : (Tryd.prog.info? 5).map (fun i => (i.zero, i.size, i.bytes)) = some (some (.int .u8 0), 1, 1) := by kernel_rfl
/-- a row of bytes, the call's own -/
structure Ob (W0 : World) (v : Value) (L : List Int) (W : World) : Prop where
  own : W.ownsRow W0.heap.size 5 1 v L.length (bv L)
  hb : Below W0.heap.size W0 W
  sz : W0.heap.size ≤ W.heap.size
theorem Ob.alloc {W0 W : World} {v : Value} {L : List Int} (h : Ob W0 v L W) (o : Obj) : Ob W0 v L (W.alloc o) :=
  ⟨h.own.alloc o, h.hb.alloc h.sz o, by simp; have := h.sz; omega⟩
theorem Ob.more {W0 W W' : World} {v v' : Value} {L M : List Int} {n : Nat} (h : Ob W0 v L W) (hn : n = (L ++ M).length) (ho : W'.ownsRow W0.heap.size 5 1 v' n (bv L ++ bv M)) (hg : W.grownBy W' v.ownBlock) : Ob W0 v' (L ++ M) W' :=
  ⟨by subst hn; unfold bv at *; rw [List.map_append]; exact ho, h.hb.grown hg h.sz (fun k e => (h.own.lt k e).1), Nat.le_trans h.sz hg.size⟩
/-- a part of a row of bytes that came in -/
theorem part_cells {W : World} {g o : Nat} {s : ByteArray} (h : BytesIn W (some ⟨g, o, none⟩) s) (a b : Nat) : ∀ j u, (bv (((nums s).take b).drop a))[j]? = some u → W.cell? ((⟨g, o + a, none⟩ : Addr).add j) = some u := by
  intro j u hj
  have e : (⟨g, o + a, none⟩ : Addr).add j = ⟨g, o + a + j, none⟩ := by unfold Addr.add; split <;> simp_all
  rw [e]
  unfold bv at hj
  rw [List.getElem?_map, List.getElem?_drop] at hj
  cases hx : ((nums s).take b)[a + j]? with
  | none => rw [hx] at hj; simp at hj
  | some d =>
    rw [hx] at hj
    simp at hj
    subst hj
    have hlt : a + j < (nums s).length := by
      have := (List.getElem?_eq_some_iff.1 hx).1
      simp at this
      omega
    rw [nums_length] at hlt
    have h1 := bytes_at h hlt rfl
    rw [List.getElem?_take] at hx
    split at hx
    · have h2 := nums_get s (a + j) hlt
      rw [List.getD_eq_getElem?_getD, hx] at h2
      simp at h2
      rw [← Nat.add_assoc] at h1
      rw [h1, h2]
    · simp at hx
theorem cells_2 (w : World) (x y : Value) (t : TypeId) : ∀ j u, [x, y][j]? = some u → (w.alloc (.cells #[x, y] t)).cell? ((⟨w.heap.size, 0, none⟩ : Addr).add j) = some u := by
  intro j u hj
  match j, hj with
  | 0, hj => simp at hj; subst hj; simp [Addr.add]
  | 1, hj => simp at hj; subst hj; simp [Addr.add]
theorem cells_4 (w : World) (x y z v : Value) (t : TypeId) : ∀ j u, [x, y, z, v][j]? = some u → (w.alloc (.cells #[x, y, z, v] t)).cell? ((⟨w.heap.size, 0, none⟩ : Addr).add j) = some u := by
  intro j u hj
  match j, hj with
  | 0, hj => simp at hj; subst hj; simp [Addr.add]
  | 1, hj => simp at hj; subst hj; simp [Addr.add]
  | 2, hj => simp at hj; subst hj; simp [Addr.add]
  | 3, hj => simp at hj; subst hj; simp [Addr.add]
theorem take_one {t : ByteArray} {i : Nat} (hi : i < t.size) : (nums t).take (i + 1) = (nums t).take i ++ [((t[i]'hi).toNat : Int)] := by
  have hl : i < (nums t).length := by rw [nums_length]; exact hi
  have e := nums_get t i hi
  rw [List.getD_eq_getElem?_getD, List.getElem?_eq_getElem hl] at e
  simp at e
  rw [List.take_succ_eq_append_getElem hl, e]
theorem ob_bytes {W0 W : World} {v : Value} {L : List Int} (h : Ob W0 v L W) (h0 : 0 < L.length) (hb : ∀ d ∈ L, 0 ≤ d ∧ d < 256) : ∃ g cap, v = .slice (some ⟨g, 0, none⟩) L.length cap ∧ BytesIn W (some ⟨g, 0, none⟩) (strOfNums L) := by
  have ho := h.own
  rcases ho.2 with ⟨rfl, hn⟩ | ⟨g, cap, cur, rfl, -⟩
  · omega
  · refine ⟨g, cap, rfl, fun i hi => ⟨g, 0, rfl, ?_⟩⟩
    have hc := ho.cells (g := g) rfl
    have hs : (strOfNums L).size = L.length := by rw [← nums_length, nums_str L hb]
    have hi' : i < L.length := by omega
    have e1 : (bv L)[i]? = some (.int .u8 L[i]) := by unfold bv; simp [hi']
    have h2 := hc i _ e1
    have add : (⟨g, 0, none⟩ : Addr).add i = ⟨g, i, none⟩ := by unfold Addr.add; split <;> simp_all
    rw [add] at h2
    rw [Nat.zero_add, h2]
    have h3 := nums_get (strOfNums L) i hi
    rw [nums_str L hb, List.getD_eq_getElem?_getD, List.getElem?_eq_getElem hi'] at h3
    simp at h3
    rw [h3]
theorem words_le (s : ByteArray) {i : Nat} (h : i < (wordsOf s).length) : (wordsOf s)[i].1 ≤ s.size := by
  obtain ⟨a, b, e, h1, -, -⟩ := words_at s h
  rw [e, ← nums_length]
  exact Nat.le_trans (Nat.le_of_lt h1.lt) h1.le
theorem wsum2 {a n : Nat} (h : a + n ≤ 100000) : wrap64 ((a : Int) + (n : Int)) = (a : Int) + (n : Int) ∧ IntKind.i64.wrap ((a : Int) + (n : Int)) = (a : Int) + (n : Int) :=
  ⟨by unfold wrap64; omega, IntWalk.i64_in _ (by omega)⟩

end Go.Proofs.YtdpbmkfgolemjaaDoor
