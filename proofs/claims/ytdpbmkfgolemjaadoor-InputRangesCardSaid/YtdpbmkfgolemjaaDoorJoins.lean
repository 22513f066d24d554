/-
  The walk of the law TokenJoins.
-/
import Derived.Test.YtdpbmkfgolemjaaDoorJoinC
import Derived.Test.YtdpbmkfgolemjaaDoorCom
import Derived.Lib.ConvBytes
set_option linter.unusedVariables false
set_option linter.unusedSimpArgs false
set_option linter.deprecated false
namespace Go.Proofs.YtdpbmkfgolemjaaDoor
open Go.RowKit

def sv (l : List ByteArray) : List Value := l.map fun t => .string t
theorem info_str : (Tryd.prog.info? 9).map (fun i => (i.zero, i.size, i.bytes)) = some (some (.string ⟨#[]⟩), 1, 16) := by kernel_rfl
/-- a row of texts, the call's own -/
structure Os (W0 : World) (v : Value) (L : List ByteArray) (W : World) : Prop where
  own : W.ownsRow W0.heap.size 9 1 v L.length (sv L)
  hb : Below W0.heap.size W0 W
  sz : W0.heap.size ≤ W.heap.size
theorem Os.alloc {W0 W : World} {v : Value} {L : List ByteArray} (h : Os W0 v L W) (o : Obj) : Os W0 v L (W.alloc o) :=
  ⟨h.own.alloc o, h.hb.alloc h.sz o, by simp; have := h.sz; omega⟩
theorem Os.more {W0 W W' : World} {v v' : Value} {L M : List ByteArray} {n : Nat} (h : Os W0 v L W) (hn : n = (L ++ M).length) (ho : W'.ownsRow W0.heap.size 9 1 v' n (sv L ++ sv M)) (hg : W.grownBy W' v.ownBlock) : Os W0 v' (L ++ M) W' :=
  ⟨by subst hn; unfold sv at *; rw [List.map_append]; exact ho, h.hb.grown hg h.sz (fun k e => (h.own.lt k e).1), Nat.le_trans h.sz hg.size⟩
theorem words_ok2 (s c : ByteArray) (h1 : s.size ≤ 5000) (h2 : c.size ≤ 5000) : ∀ x ∈ (wordsOf s).map (·.2) ++ (wordsOf c).map (·.2), WordOk (nums x) ∧ x.size ≤ 5000 := by
  have key : ∀ t : ByteArray, t.size ≤ 5000 → ∀ x ∈ (wordsOf t).map (·.2), WordOk (nums x) ∧ x.size ≤ 5000 := by
    intro t ht x hx
    obtain ⟨y, hy, rfl⟩ := List.mem_map.1 hx
    obtain ⟨i, hi, rfl⟩ := List.getElem_of_mem hy
    refine ⟨word_ok t hi, ?_⟩
    obtain ⟨a, b, e, ha, -, -⟩ := words_at t hi
    rw [e]
    show (t.extract a b).size ≤ 5000
    rw [ByteArray.size_extract]
    omega
  intro x hx
  rcases List.mem_append.1 hx with h | h
  · exact key s h1 x h
  · exact key c h2 x h
theorem sv_one (l : List ByteArray) : ∀ u ∈ sv l, u.oneCell' = true := by
  intro u hu
  simp [sv] at hu
  obtain ⟨d, -, rfl⟩ := hu
  rfl
theorem wnum2 {i : Nat} (hi : i ≤ 100000) : wrap64 (i : Int) = (i : Int) ∧ IntKind.i64.wrap (i : Int) = (i : Int) ∧ wrap64 ((i : Int) + 1) = (i : Int) + 1 ∧ IntKind.i64.wrap ((i : Int) + 1) = (i : Int) + 1 :=
  ⟨by unfold wrap64; omega, IntWalk.i64_in _ (by omega), by unfold wrap64; omega, IntWalk.i64_in _ (by omega)⟩
theorem wsub2 {i k j : Nat} (h : i = k + j) (hi : i ≤ 100000) : (i : Int) - (k : Int) = (j : Int) ∧ wrap64 ((i : Int) - (k : Int)) = (j : Int) ∧ IntKind.i64.wrap ((i : Int) - (k : Int)) = (j : Int) ∧ wrap64 (j : Int) = (j : Int) :=
  ⟨by omega, by unfold wrap64; omega, (IntWalk.i64_in _ (by omega)).trans (by omega), by unfold wrap64; omega⟩
/-- texts of a row, in memory -/
def StrRow (W : World) (ad : Option Addr) (L : List ByteArray) : Prop := ∀ i (h : i < L.length), ∃ g o, ad = some ⟨g, o, none⟩ ∧ W.cell? ⟨g, o + i, none⟩ = some (.string L[i])
theorem StrRow.below {W W' : World} {ad : Option Addr} {L : List ByteArray} (h : StrRow W ad L) (hb : Below W.heap.size W W') : StrRow W' ad L := by
  intro i hi
  obtain ⟨g, o, e, h1⟩ := h i hi
  exact ⟨g, o, e, (hb.cell (cell_lt h1)).trans h1⟩
theorem strRow_at {W : World} {g o : Nat} {L : List ByteArray} (h : StrRow W (some ⟨g, o, none⟩) L) {i : Nat} (hi : i < L.length) {t : ByteArray} (e : L[i] = t) : W.cell? ⟨g, o + i, none⟩ = some (.string t) := by
  obtain ⟨g', o', e1, h1⟩ := h i hi
  simp only [Option.some.injEq, Addr.mk.injEq, and_true] at e1
  obtain ⟨rfl, rfl⟩ := e1
  rw [h1, e]
theorem os_row {W0 W : World} {v : Value} {L : List ByteArray} (h : Os W0 v L W) : ∃ ad cap, v = .slice ad L.length cap ∧ L.length ≤ cap ∧ StrRow W ad L := by
  have ho := h.own
  rcases ho.2 with ⟨rfl, hn⟩ | ⟨g, cap, cur, rfl, -, -, hcap, -⟩
  · exact ⟨none, 0, by rw [hn], by omega, fun i hi => absurd hi (by omega)⟩
  · refine ⟨_, cap, rfl, hcap, fun i hi => ⟨g, 0, rfl, ?_⟩⟩
    have hc := ho.cells (g := g) rfl
    have h2 := hc i (.string L[i]) (by unfold sv; simp [hi])
    have add : (⟨g, 0, none⟩ : Addr).add i = ⟨g, i, none⟩ := by unfold Addr.add; split <;> simp_all
    rw [add] at h2
    rw [Nat.zero_add]
    exact h2
theorem joinL_ge (xs : List ByteArray) : (joinL (xs.map nums)).length = (((xs.map nums).map List.length).sum) + xs.length := by
  rw [joinL_len, offL_sum, List.length_map]
set_option maxHeartbeats 2000000 in
set_option maxRecDepth 100000 in
theorem tjoin_any (ad : Option Addr) (cap : Nat) (xs : List ByteArray) (w : World) (h : StrRow w ad xs) (hcap : xs.length ≤ cap) (hlen : (joinL (xs.map nums)).length ≤ 100000000) :
    Calls Tryd.prog 40 #[.slice ad xs.length cap] w fun e w' => ∃ s, e = .returned (.string s) ∧ Hid (nums s = joinL (xs.map nums)) ∧ Below w.heap.size w w' := by
  cases xs with
  | nil =>
    clear h hlen
    go_enter Tryd.func40, Tryd.ntmps40
    go_wp2
    go_ret
    exact ⟨⟨#[]⟩, rfl, rfl, Below.refl _ _⟩
  | cons x r =>
    obtain ⟨g, o, rfl, h0⟩ := h 0 (by simp)
    refine tjoin_c g o cap (x :: r) (by simp) w (fun j y hj => ?_) (cell_lt h0) ?_ hcap hlen
    · obtain ⟨hj1, rfl⟩ := List.getElem?_eq_some_iff.1 hj
      exact strRow_at h hj1 rfl
    · have := joinL_ge (x :: r)
      omega
theorem bytesWorld_bl (w : World) (e : TypeId) (s : ByteArray) : Below w.heap.size w (Lib.bytesWorld w e s) :=
  ⟨by simp [Lib.bytesWorld, World.freeze, World.alloc, World.drew, -World.alloc_eq, -World.drew_eq], by simp [Lib.bytesWorld, World.freeze, World.alloc, World.drew, -World.alloc_eq, -World.drew_eq], by simp [Lib.bytesWorld, World.freeze, World.alloc, World.drew, -World.alloc_eq, -World.drew_eq], by rw [Lib.bytesWorld_size]; omega, fun k hk => Lib.bytesWorld_at_old w e s k hk⟩
theorem bytesWorld_in (w : World) (e : TypeId) (s : ByteArray) : BytesIn (Lib.bytesWorld w e s) (some ⟨w.heap.size, 0, none⟩) s := by
  intro i hi
  refine ⟨_, 0, rfl, ?_⟩
  rw [Nat.zero_add, Lib.bytesWorld_cell w e s i hi]
  have hi2 : i < s.data.toList.length := by simpa using hi
  rw [List.getD_eq_getElem?_getD, List.getElem?_eq_getElem hi2]
  simp only [Option.getD_some, Array.getElem_toList]
  rfl
theorem join_bound (s c : ByteArray) (h1 : s.size ≤ 5000) (h2 : c.size ≤ 5000) : (joinL (((wordsOf s).map (·.2) ++ (wordsOf c).map (·.2)).map nums)).length ≤ 20002 := by
  rw [joinL_ge]
  have a1 := words_sum s
  have a2 := words_sum c
  have a3 := words_len s
  have a4 := words_len c
  simp only [List.map_append, List.sum_append, List.length_append, List.length_map] at *
  omega
theorem words_join2 (sj : ByteArray) (xs : List ByteArray) (hok : ∀ x ∈ xs, WordOk (nums x) ∧ x.size ≤ 5000) (hj : nums sj = joinL (xs.map nums)) (hl : (joinL (xs.map nums)).length ≤ 20002) :
    ∃ tk, wordsOf sj = tk ∧ tk.length = xs.length ∧ sj.size = offL (xs.map nums) xs.length ∧ sj.size ≤ 20002 ∧ ∀ i (h : i < tk.length) (h' : i < xs.length), tk[i] = (offL (xs.map nums) i, xs[i]) := by
  obtain ⟨q1, q2, q3⟩ := words_join sj xs (fun x hx => (hok x hx).1) hj
  exact ⟨_, rfl, q1, q2, by rw [← nums_length, hj]; exact hl, q3⟩
theorem offL_map (xs : List ByteArray) {i : Nat} (h : i < xs.length) : offL (xs.map nums) (i + 1) = offL (xs.map nums) i + xs[i].size + 1 := by
  rw [offL_step _ _ (by simpa using h)]
  simp [List.getD_eq_getElem?_getD, h, nums_length]
theorem offL_mono (ts : List (List Int)) : ∀ {i k : Nat}, i ≤ k → k ≤ ts.length → offL ts i ≤ offL ts k := by
  intro i k h
  induction h with
  | refl => intro _; exact Nat.le_refl _
  | @step m h ih =>
    intro hk
    have h1 := offL_step ts m (show m < ts.length by omega)
    have h2 := ih (by omega)
    show offL ts i ≤ offL ts (m + 1)
    rw [h1]
    omega

end Go.Proofs.YtdpbmkfgolemjaaDoor
