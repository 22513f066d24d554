/-
  Contract of token.All.
-/
import Derived.Test.YtdpbmkfgolemjaaDoorIter
set_option linter.unusedVariables false
set_option linter.unusedSimpArgs false
set_option linter.deprecated false
namespace Go.Proofs.YtdpbmkfgolemjaaDoor
open Go.RowKit Go.Shelf

attribute [local go_sem] Oper.semAt_some

/-- the bytes of a slice, as a text: in this world and in all that come of it -/
def TextOf (w : World) (v : Value) (s : ByteArray) : Prop := ∀ w', Below w.heap.size w w' → (convert 37 9 v).run Tryd.prog w' = .ok (.string s) w'

set_option maxRecDepth 100000 in
set_option maxHeartbeats 1000000 in
theorem words_c (ad : Option Addr) (len cap : Nat) (s : ByteArray) (hl : len ≤ 1048576) (w : World) (hT : (convert 37 9 (.slice ad len cap)).run Tryd.prog w = .ok (.string s) w) :
    Calls Tryd.prog 41 #[.slice ad len cap] w fun e w' => e = .returned (.func (.func 53) #[] #[.pointer (some ⟨w.heap.size, 0, none⟩)]) ∧ w' = w.alloc (.cells #[.string s] 9) := by
  have hl' : (len : Int) ≤ 1048576 := by omega
  go_enter Tryd.func41, Tryd.ntmps41
  go_wp2
  go_ret
  exact ⟨rfl, rfl⟩

theorem words_stops (n : Nat) (hn : 1 ≤ n) (Bt n₀ : Nat) (s : ByteArray) (hs : s.size ≤ 1048576) (w : World) (hc : Boxed w Bt 9 (.string s)) :
    SeqStopsK Fence.wide n Tryd.prog 53 #[.pointer (some ⟨Bt, 0, none⟩)] (fun x : Nat × Nat => #[Value.int .i64 (x.1 : Int), Value.string (s.extract x.1 x.2)]) (KpT Bt n₀ s) (fun ys => ys = toks (nums s)) (fun pre => pre <+: toks (nums s)) (toks (nums s)).length w := fun l J Jx W hW _ _ hY h0 =>
  words2_in n hn l Bt n₀ s hs J Jx hY W ((hW.block Bt hc.lt).trans hc) h0

theorem cells_two_new (w : World) (x y : Value) (t : TypeId) : ∀ j u, [x, y][j]? = some u → (w.alloc (.cells #[x, y] t)).cell? ((⟨w.heap.size, 0, none⟩ : Addr).add j) = some u := by
  intro j u hj
  match j, hj with
  | 0, hj =>
    simp at hj
    subst hj
    simp [Addr.add]
  | 1, hj =>
    simp at hj
    subst hj
    simp [Addr.add]

/-- the words as they lie in memory -/
def tokVals (s : ByteArray) (l : List (Nat × Nat)) : List Value := l.flatMap fun x => [.int .i64 (x.1 : Int), .string (s.extract x.1 x.2)]
theorem tokVals_snoc (s : ByteArray) (l : List (Nat × Nat)) (x : Nat × Nat) : tokVals s (l ++ [x]) = tokVals s l ++ [.int .i64 (x.1 : Int), .string (s.extract x.1 x.2)] := by simp [tokVals]
theorem info_tok : (Tryd.prog.info? 51).map (fun i => (i.zero, i.size, i.bytes)) = some (some (.agg #[.int .i64 0, .string ⟨#[]⟩]), 2, 24) := by kernel_rfl
theorem toksN_len : ∀ (f : Nat) (l : List Int) (p : Nat), (toksN f l p).length ≤ f
  | 0, _, _ => by simp [toksN]
  | f + 1, l, p => by
    simp only [toksN]
    split
    · have := toksN_len f l (we (l.drop (ws false (l.drop p) p)) (ws false (l.drop p) p))
      simp; omega
    · simp

set_option maxRecDepth 100000 in
set_option maxHeartbeats 4000000 in
theorem all_c (ad : Option Addr) (len cap : Nat) (s : ByteArray) (hs : s.size = len) (hl : len ≤ 1048576) (w : World) (hT : TextOf w (.slice ad len cap) s) :
    Calls Tryd.prog 31 #[.slice ad len cap] w fun e W' => ∃ v, e = .returned (.tuple #[v, .int .i64 0]) ∧ W'.ownsRow w.heap.size 51 2 v (toks (nums s)).length (tokVals s (toks (nums s))) ∧ (v = .slice none 0 0 ↔ toks (nums s) = []) ∧ Below w.heap.size w W' := by
  refine (callsIn_wide (n := 3)).1 ?_
  have hl' : (len : Int) ≤ 1048576 := by omega
  have htl : (toks (nums s)).length ≤ 1048577 := by have := toksN_len ((nums s).length + 1) (nums s) 0; rw [nums_length] at this; unfold toks; rw [nums_length]; omega
  obtain ⟨i0, hi, hz0, hz1, hz2⟩ := info_parts info_tok
  refine callsIn_of_wp_marks Tryd.func31 rfl trivial ?_ rfl
  simp only [Tryd.ntmps31, List.size_toArray, List.length_cons, List.length_nil, Nat.reduceAdd, Nat.reduceSub, Array.replicate_succ, Array.replicate_zero, List.push_toArray, List.append_toArray, List.nil_append, List.cons_append]
  have hT1 := hT (w.alloc (.cells #[.slice none 0 0] 46)) (bl_one _ _)
  gi_wp2_with (refine ⟨trivial, ?_⟩; gi_at_call 41; refine (callsIn_wide.2 (words_c ad len cap s hl _ hT1)).mono ?_; rintro e w' ⟨rfl, rfl⟩)
  have bO := Boxed.new w 46 (.slice none 0 0)
  have bN := Boxed.new (w.alloc (.cells #[.slice none 0 0] 46)) 9 (.string s)
  rw [World.size_alloc] at bN
  have hB0 : Below w.heap.size w ((w.alloc (.cells #[.slice none 0 0] 46)).alloc (.cells #[.string s] 9)) := ((Below.refl _ w).alloc (Nat.le_refl _) _).alloc (by simp) _
  refine wpIn_rangeFunc_ownG rfl (by omega) (gf := 53) (lb := #[.pointer (some ⟨w.heap.size + 1, 0, none⟩)]) rfl trivial (enters_of Tryd.func53 (by kernel_rfl) rfl)
    (words_stops _ (by omega) (w.heap.size + 1) w.heap.size s (by omega) _ bN) kpT_t (kpT_b (by simp; omega) (by simp)) (Below.refl _ _) (fun _ => rfl)
    (fun pre W => (∃ v, Boxed W w.heap.size 46 v ∧ W.ownsRow w.heap.size 51 2 v pre.length (tokVals s pre) ∧ (v = .slice none 0 0 ↔ pre = [])) ∧ Boxed W (w.heap.size + 1) 9 (.string s) ∧ Below w.heap.size w W)
    (fun _ _ _ => False)
    (OwnFrom.and (Own.from (holdsRow_own w.heap.size w.heap.size 46 51 2 (fun pre => pre.length) (fun pre => tokVals s pre) (fun pre v => v = .slice none 0 0 ↔ pre = [])) _) (OwnFrom.and (Own.from (boxed_own _ _ (fun _ => .string s)) _) (ownFrom_below (Nat.le_refl _) (by simp; omega))))
    (fun _ _ _ _ _ hs _ _ => hs)
    ⟨⟨_, bO.alloc _, World.ownsRow_nil _ _ _ _, by simp⟩, bN, hB0⟩
    (fun x => { tmps := #[.slice ad len cap, undef, .slice none 0 0, .int .i64 0, .pointer (some ⟨w.heap.size, 0, none⟩), .int .i64 (x.1 : Int), .string (s.extract x.1 x.2), .slice ad len cap, .int .i64 (len : Int), .bool (decide ((1048576 : Int) < (len : Int))), .slice ad len cap, .func (.func 53) #[] #[.pointer (some ⟨w.heap.size + 1, 0, none⟩)], .int .i64 (x.1 : Int), .string (s.extract x.1 x.2), undef, undef, undef, undef, undef, undef, undef], defers := [] }) ?assign ?body ?done ?stop
  case assign =>
    intro l x W K hK
    gi_wp2
    exact hK
  case body =>
    rintro l pre x W ⟨⟨v, hv, hrow, hnil⟩, hX, hB⟩ hlt
    have hc := hv.cell
    gi_wp2_with (gi_at_builtin; refine wpListIn_append_own _ rfl _ _ 46 rfl w.heap.size 51 i0 (.agg #[.int .i64 0, .string ⟨#[]⟩]) 2 24 Tryd.underlying46 hi hz0 hz1 hz2 rfl (by decide) _ _ _ rfl (hrow.alloc _) ⟨W.heap.size, 0, none⟩ 1 1 [.int .i64 (x.1 : Int), .string (s.extract x.1 x.2)] rfl rfl (cells_two_new _ _ _ _) (by simp [Value.oneCell']) (by unfold maxLen; omega) (by omega) (by have := hB.size; simp; omega) ?_; intro v' w1 hown' hgrow _; obtain ⟨g', cap', rfl⟩ := ownsRow_succ hown'; obtain ⟨hv1, hv2, hr2, hk2, hb2⟩ := hv.appended (by decide) hrow hB.size (Nat.le_refl _) hown' hgrow; have hX1 := ((hX.alloc _).kept hgrow (hX.not_row (by decide) hrow)).other (B' := w.heap.size) (by omega); have hc1 := hv1.cell; have hf1 := hv1.frozen)
    exact ⟨hk2.from _, ⟨hb2, fun _ => hX1 _⟩, ⟨_, hv2, by rw [tokVals_snoc]; simpa using hr2, by simp⟩, hX1 _, hB.trans hb2⟩
  case done =>
    rintro D ys W hD rfl ⟨⟨v, hv, hrow, hnil⟩, -, hB⟩ hK
    have hc := hv.cell
    gi_wp2
    refine ⟨by simp, .inl ⟨_, _, rfl, run_takeDeferred hK, ?_⟩⟩
    exact ⟨_, results_tmp2 rfl _ _ _, v, rfl, ownsRow_putObj hrow _ hK rfl, hnil, hB.trans (belowK_b (w := w) (Nat.le_refl _) W D _ _ (by simp at hD; omega) hK rfl rfl)⟩
  case stop =>
    rintro D c pre W _ _ h _
    exact h.elim
end Go.Proofs.YtdpbmkfgolemjaaDoor
