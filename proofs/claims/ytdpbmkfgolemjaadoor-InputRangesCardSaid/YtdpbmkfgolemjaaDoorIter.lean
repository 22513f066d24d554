/-
  The iterator of token.Words: its contract.
-/
import Derived.RangeFuncBox
import Derived.RangeFuncNested
import Derived.RangeFuncBound
import Derived.RangeFuncCalls
import Derived.RangeFuncLeaves
import Derived.Shelf.Abstract
import Derived.Shelf.RegionOpen
import Derived.WalkKit
import Derived.OwnWalkIn
import Derived.TacticsInMore
import Derived.LoopNIn
import Derived.LoopIn
import Derived.Maps.AppendAt
import Derived.Test.YtdpbmkfgolemjaaDoorWords
set_option linter.unusedVariables false
set_option linter.unusedSimpArgs false
set_option linter.deprecated false
namespace Go.Proofs.YtdpbmkfgolemjaaDoor
open Go.RowKit Go.Shelf

attribute [local go_sem] Oper.semAt_some

/-- the words of a text, from a place on: where each begins and ends -/
def toksN : Nat → List Int → Nat → List (Nat × Nat)
  | 0, _, _ => []
  | f + 1, l, p => if ws false (l.drop p) p < l.length then (ws false (l.drop p) p, we (l.drop (ws false (l.drop p) p)) (ws false (l.drop p) p)) :: toksN f l (we (l.drop (ws false (l.drop p) p)) (ws false (l.drop p) p)) else []
def toks (l : List Int) : List (Nat × Nat) := toksN (l.length + 1) l 0
theorem ws_at : ∀ (r : List Int) (c : Bool) (k : Nat), ws c r k < k + r.length → ∃ x t, r.drop (ws c r k - k) = x :: t ∧ blankZ x = false ∧ x ≠ 35
  | [], c, k, h => by cases c <;> simp [ws] at h
  | x :: r, true, k, h => by
    simp only [ws, List.length_cons] at h ⊢
    have hg := (ws_ge r (x != 10) (k + 1)).1
    obtain ⟨y, t, h1, h2⟩ := ws_at r (x != 10) (k + 1) (by omega)
    refine ⟨y, t, ?_, h2⟩
    rw [show ws (x != 10) r (k + 1) - k = (ws (x != 10) r (k + 1) - (k + 1)) + 1 by omega, List.drop_succ_cons]
    exact h1
  | x :: r, false, k, h => by
    simp only [ws, List.length_cons] at h ⊢
    split
    · rename_i hx
      rw [if_pos hx] at h
      have hg := (ws_ge r true (k + 1)).1
      obtain ⟨y, t, h1, h2⟩ := ws_at r true (k + 1) (by omega)
      refine ⟨y, t, ?_, h2⟩
      rw [show ws true r (k + 1) - k = (ws true r (k + 1) - (k + 1)) + 1 by omega, List.drop_succ_cons]
      exact h1
    · rename_i hx
      rw [if_neg hx] at h
      split
      · rename_i hb
        rw [if_pos hb] at h
        have hg := (ws_ge r false (k + 1)).1
        obtain ⟨y, t, h1, h2⟩ := ws_at r false (k + 1) (by omega)
        refine ⟨y, t, ?_, h2⟩
        rw [show ws false r (k + 1) - k = (ws false r (k + 1) - (k + 1)) + 1 by omega, List.drop_succ_cons]
        exact h1
      · rename_i hb
        exact ⟨x, r, by simp, by simpa using hb, hx⟩
/-- a word is not empty, and ends in the text -/
theorem we_gt (l : List Int) (p : Nat) (hp : p ≤ l.length) (h : ws false (l.drop p) p < l.length) :
    ws false (l.drop p) p < we (l.drop (ws false (l.drop p) p)) (ws false (l.drop p) p) ∧ we (l.drop (ws false (l.drop p) p)) (ws false (l.drop p) p) ≤ l.length ∧ p ≤ ws false (l.drop p) p := by
  have h1 := ws_ge (l.drop p) false p
  have hlen : (l.drop p).length = l.length - p := by simp
  obtain ⟨x, t, h2, h3, -⟩ := ws_at (l.drop p) false p (by omega)
  rw [List.drop_drop] at h2
  have e : p + (ws false (l.drop p) p - p) = ws false (l.drop p) p := by omega
  rw [e] at h2
  have h4 := we_ge (l.drop (ws false (l.drop p) p)) (ws false (l.drop p) p)
  have hlen2 : (l.drop (ws false (l.drop p) p)).length = l.length - ws false (l.drop p) p := by simp
  refine ⟨?_, by omega, h1.1⟩
  rw [h2]
  simp only [we, h3]
  have := (we_ge t (ws false (l.drop p) p + 1)).1
  simp
  omega

/-- what a round keeps: all that lay below, and the text's box -/
def KpT (Bt n₀ : Nat) (s : ByteArray) (A B : World) : Prop := Below n₀ A B ∧ (Boxed A Bt 9 (.string s) → Boxed B Bt 9 (.string s))
theorem kpT_t {Bt n₀ : Nat} {s : ByteArray} {A B C : World} (h : KpT Bt n₀ s A B) (k : KpT Bt n₀ s B C) : KpT Bt n₀ s A C := ⟨h.1.trans k.1, fun x => k.2 (h.2 x)⟩
theorem kpT_b {Bt n₀ : Nat} {s : ByteArray} {w : World} (hn : n₀ ≤ w.heap.size) (hB : Bt < w.heap.size) (W : World) (l : Nat) (o o' : Obj) (hl : w.heap.size ≤ l) (h : W.heap[l]? = some o) (h1 : o.isCells = false) (h2 : o.isWalk = false) : KpT Bt n₀ s W (W.putObj l o') :=
  ⟨belowK_b hn W l o o' hl h h1 h2, fun hx => hx.kept (grownBy_putObj' W l o') (fun e => by cases e; omega)⟩

/-- at the loop's head -/
def ItR (l : List Int) (Bt : Nat) (s : ByteArray) (J : List (Nat × Nat) → World → Prop) (av : Value) (wr : World) : Prop :=
  ∃ (pre : List (Nat × Nat)) (p f : Nat), av = .int .i64 ((ws false (l.drop p) p : Nat) : Int) ∧ p ≤ l.length ∧ Hid (toks l = pre ++ toksN f l p ∧ l.length < f + p) ∧ J pre wr ∧ Boxed wr Bt 9 (.string s)

set_option maxRecDepth 100000 in
set_option maxHeartbeats 2000000 in
theorem words2_in (n : Nat) (hn : 1 ≤ n) (l Bt n₀ : Nat) (s : ByteArray) (hs : s.size ≤ 1048576) (J Jx : List (Nat × Nat) → World → Prop)
    (hY : ∀ pre x W, J pre W → pre.length < (toks (nums s)).length → YieldAt Fence.wide (n - 1) Tryd.prog l #[.int .i64 ((x.1 : Nat) : Int), .string (s.extract x.1 x.2)] W fun e W' =>
      (e = .returned (.bool true) ∧ J (pre ++ [x]) W' ∧ KpT Bt n₀ s W W') ∨ (e = .returned (.bool false) ∧ Jx (pre ++ [x]) W'))
    (W : World) (hBx : Boxed W Bt 9 (.string s)) (h0 : J [] W) :
    CallsIn Fence.wide n Tryd.prog 53 #[.func (.yield l) #[] #[], .pointer (some ⟨Bt, 0, none⟩)] W fun e W' => (∃ v, e = .returned v) ∧
      ((∃ ys, ys = toks (nums s) ∧ J ys W') ∨ (∃ pre, pre <+: toks (nums s) ∧ Jx pre W')) := by
  have hlen : (nums s).length = s.size := nums_length s
  have hBt := hBx.cell
  refine callsIn_of_wp Tryd.func53 rfl trivial ?_ rfl
  simp only [Tryd.ntmps53, List.size_toArray, List.length_cons, List.length_nil, Nat.reduceAdd, Nat.reduceSub, Array.replicate_succ, Array.replicate_zero, List.push_toArray, List.append_toArray, List.nil_append, List.cons_append]
  have c0 := wordStart_c s (by omega) 0 (by omega) W
  gi_wp2_with (refine ⟨trivial, ?_⟩; gi_at_call 54; refine (callsIn_wide.2 c0).mono ?_; rintro e w' ⟨rfl, rfl⟩)
  clear c0
  gi_loopw [3] (fun av wr => ItR (nums s) Bt s J av wr) (fun av _ => s.size + 1 - (intOf av).toNat)
  case atStart =>
    refine ⟨[], 0, (nums s).length + 1, rfl, by omega, ⟨rfl, by omega⟩, h0, hBx⟩
  case round =>
    obtain ⟨pre, p, f, rfl, hp, HQ, hJ, hbw⟩ := hrel
    have hcell := hbw.cell
    obtain ⟨a, ha⟩ : ∃ a, ws false ((nums s).drop p) p = a := ⟨_, rfl⟩
    rw [ha]
    by_cases hlt : a < s.size
    · have hg := we_gt (nums s) p hp (by omega)
      rw [ha] at hg
      obtain ⟨b, hbb⟩ : ∃ b, we ((nums s).drop a) a = b := ⟨_, rfl⟩
      rw [hbb] at hg
      obtain ⟨f', rfl⟩ : ∃ f', f = f' + 1 := ⟨f - 1, by have := HQ.out.2; omega⟩
      have HQ2 : Hid (toks (nums s) = (pre ++ [(a, b)]) ++ toksN f' (nums s) b ∧ (nums s).length < f' + b) := by
        refine ⟨?_, by have := HQ.out.2; omega⟩
        rw [HQ.out.1]
        simp only [toksN]
        rw [ha, if_pos (by omega), hbb]
        simp
      obtain ⟨fn, tmps, assign, body, hy, hR⟩ := hY pre (a, b) wr hJ (by rw [HQ2.out.1]; simp)
      dsimp only at hy
      have ce := wordEnd_c s (by omega) a (by omega) wr
      rw [hbb] at ce
      have HAB : Hid (a < b ∧ b ≤ s.size) := ⟨hg.1, by omega⟩
      have hle : (a : Int) ≤ (b : Int) := by omega
      have hle2 : (b : Int) ≤ (s.size : Int) := by omega
      have b1 : decide ((a : Int) < (s.size : Int)) = true := by simp; omega
      have HA := Lib.hid ha
      clear ha hbb hg
      gi_wp2_with (refine ⟨trivial, ?_⟩; gi_at_call 55; refine (callsIn_wide.2 ce).mono ?_; rintro e w' ⟨rfl, rfl⟩)
      refine hR.mono ?_
      rintro e W3 (⟨rfl, hJ3, hk3⟩ | ⟨rfl, hJx3⟩)
      · have hcell3 := (hk3.2 hbw).cell
        have cs := wordStart_c s (by omega) b (by have := HAB.out; omega) W3
        gi_wp2_with (refine ⟨trivial, ?_⟩; gi_at_call 54; refine (callsIn_wide.2 cs).mono ?_; rintro e w' ⟨rfl, rfl⟩)
        go_roundw
        case rel => exact ⟨pre ++ [(a, b)], b, f', rfl, by have := HAB.out; omega, HQ2.out, hJ3, hk3.2 hbw⟩
        case measure =>
          have h1 := ws_ge ((nums s).drop b) false b
          have h2 := HAB.out
          have h3 : ((nums s).drop b).length = s.size - b := by rw [List.length_drop, hlen]
          simp only [intOf]
          omega
      · gi_wp2
        refine bodyPost_ret (results_none rfl _ _ _) rfl ?_
        exact ⟨⟨_, rfl⟩, .inr ⟨pre ++ [(a, b)], ⟨_, HQ2.out.1.symm⟩, hJx3⟩⟩
    · have b1 : decide ((a : Int) < (s.size : Int)) = false := by simp; omega
      have HE : Hid (toks (nums s) = pre) := by
        unfold Hid
        have h1 := HQ.out.1
        cases f with
        | zero => simpa [toksN] using h1
        | succ f' =>
          simp only [toksN] at h1
          rw [ha, if_neg (by omega)] at h1
          simpa using h1
      gi_wp2
      go_end0
      exact ⟨⟨_, rfl⟩, .inl ⟨pre, HE.out.symm, hJ⟩⟩
end Go.Proofs.YtdpbmkfgolemjaaDoor
