/-
  What the law's known of the token layer answers.
-/
import Derived.Test.YtdpbmkfgolemjaaDoorTokAll
import Derived.Test.YtdpbmkfgolemjaaDoorTokNum2
import Derived.Test.YtdpbmkfgolemjaaDoorSame
import Derived.Lib.SlBytesConst
set_option linter.unusedVariables false
set_option linter.unusedSimpArgs false
set_option linter.deprecated false
namespace Go.Proofs.YtdpbmkfgolemjaaDoor
open Go.RowKit

/-- the words of a text, each at its place -/
def wordsOf (s : ByteArray) : List (Nat × ByteArray) := (toks (nums s)).map fun x => (x.1, s.extract x.1 x.2)
theorem tokVals_get (s : ByteArray) : ∀ (l : List (Nat × Nat)) (i : Nat) (h : i < l.length), (tokVals s l)[i * 2]? = some (.int .i64 ((l[i].1 : Nat) : Int)) ∧ (tokVals s l)[i * 2 + 1]? = some (.string (s.extract l[i].1 l[i].2))
  | x :: l, 0, _ => by simp [tokVals]
  | x :: l, i + 1, h => by
    have := tokVals_get s l i (by simpa using h)
    have e : tokVals s (x :: l) = .int .i64 (x.1 : Int) :: .string (s.extract x.1 x.2) :: tokVals s l := by simp [tokVals]
    rw [e, show (i + 1) * 2 = i * 2 + 1 + 1 by omega, show i * 2 + 1 + 1 + 1 = (i * 2 + 1) + 1 + 1 by omega]
    simpa using this
theorem all_w (ad : Option Addr) (len cap : Nat) (s : ByteArray) (hs : s.size = len) (hl : len ≤ 1048576) (w : World) (hT : TextOf w (.slice ad len cap) s) :
    Calls Tryd.prog 31 #[.slice ad len cap] w fun e W' => ∃ ad' cp, e = .returned (.tuple #[.slice ad' (wordsOf s).length cp, .int .i64 0]) ∧ TokCells W' ad' (wordsOf s) ∧ Below w.heap.size w W' := by
  refine (all_c ad len cap s hs hl w hT).mono ?_
  rintro e W' ⟨v, rfl, hr, hn, hb⟩
  have hlen : (wordsOf s).length = (toks (nums s)).length := by simp [wordsOf]
  rw [hlen]
  rcases hr.2 with ⟨rfl, h0⟩ | ⟨g, cp, cur, rfl, h1⟩
  · rw [h0]
    refine ⟨none, 0, rfl, fun i hi => ?_, hb⟩
    rw [hlen, h0] at hi
    omega
  · refine ⟨_, cp, rfl, fun i hi => ?_, hb⟩
    have hi' : i < (toks (nums s)).length := by rw [← hlen]; exact hi
    obtain ⟨e1, e2⟩ := tokVals_get s (toks (nums s)) i hi'
    refine ⟨g, 0, rfl, ?_, ?_⟩
    · rw [Nat.zero_add, hr.cellAt (i * 2) (by omega), e1]
      simp [wordsOf]
    · rw [Nat.zero_add, hr.cellAt (i * 2 + 1) (by omega), e2]
      simp [wordsOf]

def sK : ByteArray := ⟨#[97, 32, 35, 32, 98, 10, 45, 49, 50, 32, 99, 35]⟩
def kW : List (Nat × ByteArray) := [(0, ⟨#[97]⟩), (6, ⟨#[45, 49, 50]⟩), (10, ⟨#[99, 35]⟩)]
theorem toks_sK : toks (nums sK) = [(0, 1), (6, 9), (10, 12)] := by decide +kernel
theorem words_sK : wordsOf sK = kW := by
  unfold wordsOf
  rw [toks_sK]
  rfl
theorem spec_ok {l : List Int} {most v er : Int} (h : NumSpec l most v er) (hv : Pos (digOf l)) (hm : dv (digOf l) ≤ most) : er = 0 ∧ v = if l.head? = some 45 then - dv (digOf l) else dv (digOf l) := by
  rcases h with ⟨-, -, h⟩ | ⟨-, -, -, h⟩ | ⟨h1, -, -, h2⟩
  · exact absurd (.inr hv) h
  · omega
  · exact ⟨h1, h2⟩
theorem spec_big {l : List Int} {most v er : Int} (h : NumSpec l most v er) (hv : Pos (digOf l)) (hm : most < dv (digOf l)) : er = 10 := by
  rcases h with ⟨-, -, h⟩ | ⟨h, -⟩ | ⟨-, -, h1, -⟩
  · exact absurd (.inr hv) h
  · exact h
  · omega
theorem spec_no {l : List Int} {most v er : Int} (h : NumSpec l most v er) (hv : ¬ Valid l) : er = 11 := by
  rcases h with ⟨h, -⟩ | ⟨-, -, h, -⟩ | ⟨-, h, -⟩
  · exact h
  · exact absurd h hv
  · exact absurd h hv
theorem pos12 : Pos [49, 50] := ⟨by decide, by intro d hd; simp at hd; omega, by intro d hd; simp at hd; omega⟩
theorem pos13 : Pos [49, 51] := ⟨by decide, by intro d hd; simp at hd; omega, by intro d hd; simp at hd; omega⟩
theorem kn1 {v er : Int} (h : NumSpec (nums ⟨#[45, 49, 50]⟩) 12 v er) : v = -12 ∧ er = 0 := by
  have := spec_ok (l := [45, 49, 50]) h pos12 (by decide)
  exact ⟨this.2.trans (by decide), this.1⟩
theorem kn2 {v er : Int} (h : NumSpec (nums ⟨#[48, 49, 51]⟩) 99 v er) : er = 11 := by
  refine spec_no (l := [48, 49, 51]) h ?_
  rintro (h | h)
  · simp at h
  · exact h.2.2 48 (by decide) rfl
theorem kn3 {v er : Int} (h : NumSpec (nums ⟨#[49, 51]⟩) 12 v er) : er = 10 := spec_big (l := [49, 51]) h pos13 (by decide)
theorem litCells (w : World) (t : TypeId) : TokCells (w.alloc (.cells #[.int .i64 0, .string ⟨#[97]⟩, .int .i64 6, .string ⟨#[45, 49, 50]⟩, .int .i64 10, .string ⟨#[99, 35]⟩] t)) (some ⟨w.heap.size, 0, none⟩) kW := by
  intro i hi
  refine ⟨_, _, rfl, ?_⟩
  have : i = 0 ∨ i = 1 ∨ i = 2 := by simp [kW] at hi; omega
  rcases this with rfl | rfl | rfl <;> constructor <;> simp [go_sem, kW]
theorem text_sK (w : World) (t : TypeId) : TextOf (w.alloc (.cells #[.int .u8 97, .int .u8 32, .int .u8 35, .int .u8 32, .int .u8 98, .int .u8 10, .int .u8 45, .int .u8 49, .int .u8 50, .int .u8 32, .int .u8 99, .int .u8 35] t (12, 13))) (.slice (some ⟨w.heap.size, 0, none⟩) 12 12) sK := by
  intro w' hb
  have hnew := World.alloc_heap_new w (.cells #[.int .u8 97, .int .u8 32, .int .u8 35, .int .u8 32, .int .u8 98, .int .u8 10, .int .u8 45, .int .u8 49, .int .u8 50, .int .u8 32, .int .u8 99, .int .u8 35] t (12, 13))
  have h := run_convert_bytes_arg w' 37 5 Tryd.underlying37 Tryd.underlying5 w.heap.size 0 12 12 [97, 32, 35, 32, 98, 10, 45, 49, 50, 32, 99, 35] rfl (fun i hi => by
    rw [hb.cell (by simp)]
    have : i = 0 ∨ i = 1 ∨ i = 2 ∨ i = 3 ∨ i = 4 ∨ i = 5 ∨ i = 6 ∨ i = 7 ∨ i = 8 ∨ i = 9 ∨ i = 10 ∨ i = 11 := by omega
    rcases this with rfl | rfl | rfl | rfl | rfl | rfl | rfl | rfl | rfl | rfl | rfl | rfl <;> (unfold World.cell?; dsimp only; rw [hnew]; rfl)) 9 Tryd.underlying9
  exact h

theorem conv_lit (w : World) : (convert 37 37 (.slice (some ⟨w.heap.size, 0, none⟩) 12 12)).run Tryd.prog (w.alloc (.cells #[.int .u8 97, .int .u8 32, .int .u8 35, .int .u8 32, .int .u8 98, .int .u8 10, .int .u8 45, .int .u8 49, .int .u8 50, .int .u8 32, .int .u8 99, .int .u8 35] 5)) = .ok (.slice (some ⟨w.heap.size, 0, none⟩) 12 12) (w.alloc (.cells #[.int .u8 97, .int .u8 32, .int .u8 35, .int .u8 32, .int .u8 98, .int .u8 10, .int .u8 45, .int .u8 49, .int .u8 50, .int .u8 32, .int .u8 99, .int .u8 35] 5 (12, 13))) :=
  Lib.run_convert_bytes_const w 37 5 #[.int .u8 97, .int .u8 32, .int .u8 35, .int .u8 32, .int .u8 98, .int .u8 10, .int .u8 45, .int .u8 49, .int .u8 50, .int .u8 32, .int .u8 99, .int .u8 35] 12 12 Tryd.underlying37 Tryd.underlying5
def Gives (v : Value) (w : World) (e : Ending) (w' : World) : Prop := e = .returned v ∧ Below w.heap.size w w'
end Go.Proofs.YtdpbmkfgolemjaaDoor
