/-
  Contract of strings.Join and of token.Join.
-/
import Derived.Shelf.Strings.OnBuilder
import Derived.Test.YtdpbmkfgolemjaaDoorJoinMath
import Derived.Test.YtdpbmkfgolemjaaDoorBack
set_option linter.unusedVariables false
set_option linter.unusedSimpArgs false
set_option linter.deprecated false
namespace Go.Proofs.YtdpbmkfgolemjaaDoor
open Go.RowKit Go.Shelf

def joinRen : Ren where
  f := fun x => match x with
    | 156 => 51 | 165 => 64 | 166 => 25 | 169 => 27 | 240 => 38 | 241 => 73 | 276 => 49 | 277 => 80 | n => n
  t := fun x => match x with
    | 31 => 52 | 9 => 9 | 3 => 3 | 4 => 4 | 0 => 0 | 20 => 20 | 72 => 67 | 76 => 70 | 70 => 65 | 37 => 37 | 75 => 69 | 127 => 93 | 164 => 105 | 5 => 5 | 80 => 59 | n => n
  g := fun x => x
set_option maxRecDepth 100000 in
theorem joinLays : Lays.n156 Tryd.prog joinRen := by
  constructor
  all_goals first | kernel_rfl | (intro w; kernel_rfl)
set_option maxRecDepth 100000 in
theorem joinExtra : Builder.Extra Tryd.prog joinRen where
  sizeBuilder := by kernel_rfl
  liesBuilder := by kernel_rfl
  t5 := by kernel_rfl
  a5 := fun w => by kernel_rfl
  z5 := fun w => by kernel_rfl
  v5 := fun w => by kernel_rfl
  infoByte := by kernel_rfl
  cellsByte := by kernel_rfl
  sizeByte := by kernel_rfl
  neB5 := by decide
def n8 (l : List UInt8) : List Int := l.map fun b => (b.toNat : Int)
theorem tail_nums : ∀ (r : List (List UInt8)) (x : List UInt8), n8 (x ++ Lib.joinTail [32] r) ++ [10] = joinL ((x :: r).map n8)
  | [], x => by simp [Lib.joinTail, joinL, n8]
  | y :: r, x => by
    have ih := tail_nums r y
    have e : Lib.joinTail [32] (y :: r) = [32] ++ (y ++ Lib.joinTail [32] r) := by simp [Lib.joinTail]
    rw [e]
    have h1 : n8 (x ++ ([32] ++ (y ++ Lib.joinTail [32] r))) = n8 x ++ 32 :: n8 (y ++ Lib.joinTail [32] r) := by simp [n8]
    rw [h1, List.append_assoc, List.cons_append, ih]
    rfl
theorem join_nums (xs : List ByteArray) (h : xs ≠ []) : nums (⟨(Lib.join (xs.map (·.data.toList)) [32]).toArray⟩ : ByteArray) ++ [10] = joinL (xs.map nums) := by
  cases xs with
  | nil => exact absurd rfl h
  | cons x r =>
    have e := tail_nums (r.map (·.data.toList)) x.data.toList
    rw [List.map_cons, Lib.join_cons]
    unfold n8 at e
    unfold nums
    simp only []
    rw [e]
    congr 1
    simp [List.map_map, Function.comp_def]
set_option maxHeartbeats 2000000 in
set_option maxRecDepth 100000 in
theorem tjoin_c (bk o c : Nat) (xs : List ByteArray) (hne : xs ≠ []) (w : World) (hcells : ∀ (j : Nat) x, xs[j]? = some x → w.cell? ⟨bk, o + j, none⟩ = some (.string x)) (hbk : bk < w.heap.size)
    (hN : xs.length ≤ 140737488355328) (hcap : xs.length ≤ c) (hlen : (joinL (xs.map nums)).length ≤ 100000000) :
    Calls Tryd.prog 40 #[.slice (some ⟨bk, o, none⟩) xs.length c] w fun e w' => ∃ s, e = .returned (.string s) ∧ Hid (nums s = joinL (xs.map nums)) ∧ Below w.heap.size w w' := by
  have h0 : 0 < xs.length := List.length_pos_iff.2 hne
  have hjn := join_nums xs hne
  have hl2 : (Lib.join (xs.map (·.data.toList)) (⟨#[32]⟩ : ByteArray).data.toList).length ≤ 140737488355328 := by
    have := congrArg List.length hjn
    rw [List.length_append, nums_length] at this
    simp only [List.length_singleton] at this
    have e : (⟨(Lib.join (xs.map (·.data.toList)) [32]).toArray⟩ : ByteArray).size = (Lib.join (xs.map (·.data.toList)) [32]).length := by simp [ByteArray.size]
    rw [e] at this
    show (Lib.join (xs.map (·.data.toList)) [32]).length ≤ 140737488355328
    omega
  have CJ := Lib.hid (show Calls Tryd.prog 51 #[.slice (some ⟨bk, o, none⟩) xs.length c, .string ⟨#[32]⟩] w (fun e w' => e = .returned (.string ⟨(Lib.join (xs.map (·.data.toList)) [32]).toArray⟩) ∧ Below w.heap.size w w') from Any.strings_Join joinLays joinExtra bk o c xs ⟨#[32]⟩ w hcells hbk hN hcap hl2)
  have b1 : ((xs.length : Int) == 0) = false := by simp; exact hne
  have HJN := Lib.hid hjn
  clear hjn hl2 hcells
  go_enter Tryd.func40, Tryd.ntmps40
  go_wp2_with fail
  (with_reducible refine CJ.out.mono ?_); rintro e w1 ⟨rfl, hb1⟩
  have HB := Lib.hid hb1
  obtain ⟨sj, hsj⟩ : ∃ sj : ByteArray, ⟨(Lib.join (xs.map (·.data.toList)) [32]).toArray⟩ = sj := ⟨_, rfl⟩
  rw [hsj] at HJN ⊢
  have hs : sj.size ≤ 100000000 := by
    have := congrArg List.length HJN.out
    rw [List.length_append, nums_length] at this
    simp only [List.length_singleton] at this
    omega
  have hs2 : sj.size + 1 ≤ 9223372036854775807 := by omega
  clear hb1 CJ hsj
  go_wp2
  go_ret
  refine ⟨_, rfl, ?_, HB.out⟩
  have := HJN.out
  unfold Hid
  rw [← this, nums_append]
  rfl
end Go.Proofs.YtdpbmkfgolemjaaDoor
