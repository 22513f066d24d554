/-
  Proved: for all rows of bytes and every number the law TokenComments returns true, and its arguments read as they did. No condition.
-/
import Derived.Test.YtdoilgddlhadhaaCom
import Derived.Test.YtdoilgddlhadhaaOpenBytes
namespace Go.Proofs.Ytdoilgddlhadhaa
open Go.RowKit Go.ChangeShapes Go.WideShapes Go.ChangeAt Go.Deep

theorem open_bytes2 {H : Type} {enc : TypeId × Value → H} {w : World} {r : Reach} {b0 : Nat} {spare : Nat → Bool} {held : Bool} {v : Value} {d : DataW H} {p : List MemPlace}
    (hv : Value.okWide Try.prog w r b0 22 v) (h : DataW.Trod enc Try.prog w 0 spare held 22 v d p) :
    ∃ (ad : Option Addr) (cp : Nat) (s : ByteArray), v = .slice ad s.size cp ∧ s.size ≤ cp ∧ (ad = none → cp = 0) ∧ BytesIn w ad s := by
  obtain ⟨a0, len0, cap0, rfl⟩ := okWide_slice Try.underlying22 hv
  obtain ⟨fuel, hf⟩ := h
  have hC : Try.prog.cellsOf 5 = 1 := by kernel_rfl
  rcases open_slice1 Try.underlying22 hC hf with ⟨hcs, -⟩ | ⟨a, len, cap, m, n, V, D, Pl, hcs, -, hl, hm, hmm, -, hx⟩
  · simp [Value.cells] at hcs
    obtain ⟨rfl, rfl, rfl⟩ := hcs
    exact ⟨none, 0, ByteArray.empty, rfl, by simp, fun _ => rfl, fun i hi => absurd hi (by simp)⟩
  simp [Value.cells] at hcs
  obtain ⟨rfl, rfl, rfl⟩ := hcs
  have hlm : len0 ≤ m := by rw [hmm]; split <;> omega
  have key : ∀ i, i < len0 → ∃ z : Int, w.cell? (a.add i) = some (.int .u8 z) ∧ 0 ≤ z ∧ z < 256 := by
    intro i hi
    obtain ⟨h1, h2⟩ := hx i (by omega)
    obtain ⟨z, e, -, wz⟩ := DataW.trod_int Try.underlying5 h2
    simp at e
    have := bounds_u8 wz
    exact ⟨z, by rw [h1, e], this.1, by omega⟩
  obtain ⟨f, hf'⟩ := choose_lt key
  have hz : ∀ d ∈ (List.range len0).map f, 0 ≤ d ∧ d < 256 := by
    intro d hd
    obtain ⟨i, hi, rfl⟩ := List.mem_map.1 hd
    exact (hf' i (by simpa using hi)).2
  have hsz : (strOfNums ((List.range len0).map f)).size = len0 := by rw [strOfNums_size]; simp
  refine ⟨some a, cap0, strOfNums ((List.range len0).map f), by rw [hsz], by rw [hsz]; exact hl, fun h => (by cases h), fun i hi => ?_⟩
  have hi' : i < len0 := by rw [← hsz]; exact hi
  obtain ⟨g, o, sp⟩ := a
  have hsp : sp = none := by simpa [Addr.add] using World.cell?_spot (hf' 0 (by omega)).1
  subst hsp
  refine ⟨g, o, rfl, ?_⟩
  have h1 := (hf' i hi').1
  rw [add_plain] at h1
  rw [h1]
  congr 2
  have h2 := nums_get _ i hi
  rw [← h2, nums_str _ hz]
  simp [List.getD, hi']
end Go.Proofs.Ytdoilgddlhadhaa
namespace Go.Proofs.Ytdoilgddlhadhaa.tokenComments
open Go.ChangeShapes Go.WideShapes Go.ChangeAt Go.RowKit

theorem own : ownKnob Try.prog.godebug = none := by kernel_rfl

set_option maxRecDepth 100000 in
theorem lifted (os : Os) (started : os.Started) (H : Type) (enc : TypeId × Value → H) :
    ReturnsInHanded {} Try.checked os 8 .any (Rows.tokenCommentsSpec.pre6 enc Try.prog Try.f8 Rows.tokenCommentsRow.domain false) (Rows.tokenCommentsSpec.post enc Try.prog Try.f8 false true false false) := by
  refine returnsInHanded_of_change (C := Try.checked) own started (by kernel_rfl) Try.func8
    (ChangeSpec.witness6 (enc := enc) (C := Try.checked) false ⟨#[], #[.slice none 0 0, .int .i64 0, .slice none 0 0], []⟩ 8 (by kernel_rfl) (by kernel_rfl) (by kernel_rfl) (by kernel_rfl)) ?_
  intro W base args ds gs before hval0 hW _ _
  have hval : ∀ (j : Nat) t v, Try.f8.params[j]? = some t → args[j]? = some v → Value.okWide Try.prog W .any base t v := hval0
  have hW' := hW
  obtain ⟨p, q, hA0, hV, rfl, -, -⟩ := hW
  have hA : DataW.TrodAll enc Try.prog W 0 (fun _ => true) true Try.f8.params.toList args.toList ds p := hA0
  rw [Try.params8] at hA hval
  obtain ⟨v0, vs0, d0, ds0, p0, q0, hargs, rfl, rfl, h0, r0⟩ := trodAll_cons hA
  obtain ⟨v1, vs1, d1, ds1, p1, q1, hargs1, rfl, rfl, h1, r1⟩ := trodAll_cons r0
  obtain ⟨v2, vs2, d2, ds2, p2, q2, hargs2, rfl, rfl, h2, r2⟩ := trodAll_cons r1
  obtain ⟨rfl, rfl, rfl⟩ := trodAll_nil r2
  obtain rfl : args = #[v0, v1, v2] := by cases args; simp_all
  obtain ⟨rfl, rfl⟩ := trodVars_none hV
  obtain ⟨ad, cp, s, rfl, hcap, hz, hB⟩ := open_bytes2 (hval 0 22 v0 rfl rfl) h0
  obtain ⟨n, rfl, rfl, rfl, wn⟩ := open_int Try.underlying3 (hval 1 3 v1 rfl rfl) h1
  obtain ⟨ad2, cp2, s2, rfl, -, -, hB2⟩ := open_bytes2 (hval 2 22 v2 rfl rfl) h2
  clear hA0 hval0
  have hlt0 : ∀ x ∈ p0, x.block < W.heap.size := fun x hx => by simpa using hW'.lt x (by simp; exact .inl hx)
  have hlt2 : ∀ x ∈ p2, x.block < W.heap.size := fun x hx => by simpa using hW'.lt x (by simp; exact .inr hx)
  simp only [List.append_nil, List.nil_append] at hW'
  refine (com_l ad ad2 cp cp2 s s2 n hcap hz W hB hB2).mono fun e W' h => ?_
  obtain ⟨he, hb⟩ := h
  subst he
  have hargs9 : DataW.TrodAll enc Try.prog W' 0 (fun b => decide (b < W.heap.size)) true [22, 3, 22] [.slice ad s.size cp, .int .i64 n, .slice ad2 s2.size cp2] [d0, .lit (.int .i64 n), d2] (p0 ++ p2) := by
    simpa using trodAll_cons_mk (Below.trod (by kernel_rfl) (by kernel_rfl) (of_decide_eq_true (by kernel_rfl)) h0 hb hlt0) (trodAll_cons_mk (p := []) (shut_int Try.underlying3 wn) (trodAll_cons_mk (Below.trod (by kernel_rfl) (by kernel_rfl) (of_decide_eq_true (by kernel_rfl)) h2 hb hlt2) trodAll_mk0))
  exact ⟨_, rfl, _, _, _, [], p0 ++ p2, [], hW', trodAll_cons_mk (shut_bool Try.underlying4 _) trodAll_mk0, hargs9, rfl, hb.frame _, fun h => by cases h⟩

theorem proved : Rows.TokenCommentsSaid :=
  OpenClaim.holds_of_wide 8 Try.f8 rfl rfl rfl rfl rfl rfl rfl ⟨rfl, rfl, rfl, rfl, rfl⟩ rfl rfl rfl rfl rfl (by kernel_rfl) Try.func8 (by kernel_rfl)
    (of_decide_eq_true (by kernel_rfl)) (by unfold Func.isWrapper; first | (rw [if_pos (by decide +kernel)]; kernel_rfl) | (rw [if_neg (by decide +kernel)]; exact ⟨rfl, rfl⟩))
    (fun os started H enc _ => lifted os started H enc)
end Go.Proofs.Ytdoilgddlhadhaa.tokenComments
