/-
  Words with whatever lies between them: plain facts.
-/
import Derived.Test.YtdpbmkfgolemjaaDoorJoinMath
set_option linter.unusedVariables false
set_option linter.unusedSimpArgs false
set_option linter.deprecated false
namespace Go.Proofs.YtdpbmkfgolemjaaDoor

/-- what may lie behind a word: a blank, then what is passed over -/
structure GapOk (g : List Int) : Prop where
  hd : ∃ b r, g = b :: r ∧ blankZ b = true
  thru : ∀ (t : List Int) (k : Nat), ws false (g ++ t) k = ws false t (k + g.length)
def Thru (g : List Int) : Prop := ∀ (t : List Int) (k : Nat), ws false (g ++ t) k = ws false t (k + g.length)
def layG : List (List Int × List Int) → List Int
  | [] => []
  | x :: r => x.1 ++ (x.2 ++ layG r)
def layT : Nat → List (List Int × List Int) → List (Nat × Nat)
  | _, [] => []
  | p, x :: r => (p, p + x.1.length) :: layT (p + x.1.length + x.2.length) r
/-- the words of a text, each at its place -/
def wordsZ (l : List Int) : List (Int × List Int) := (toks l).map fun x => ((x.1 : Int), (l.take x.2).drop x.1)
def layW : Nat → List (List Int × List Int) → List (Int × List Int)
  | _, [] => []
  | p, x :: r => ((p : Int), x.1) :: layW (p + x.1.length + x.2.length) r
theorem gap_blank (b : Int) (hb : blankZ b = true) : GapOk [b] := by
  refine ⟨⟨b, [], rfl, hb⟩, fun t k => ?_⟩
  have h35 : b ≠ 35 := by intro e; subst e; revert hb; decide
  simp only [List.cons_append, List.nil_append, ws, if_neg h35, hb, if_true, List.length_cons, List.length_nil]
theorem toksN_thru {X g r : List Int} {e : Nat} (f : Nat) (hd : X.drop e = g ++ r) (h : Thru g) : toksN f X e = toksN f X (e + g.length) := by
  have h2 : X.drop (e + g.length) = r := by rw [← List.drop_drop, hd, List.drop_left]
  cases f with
  | zero => rfl
  | succ f =>
    have key : ws false (X.drop e) e = ws false (X.drop (e + g.length)) (e + g.length) := by rw [hd, h, h2]
    unfold toksN
    rw [key]
theorem we_all : ∀ (w : List Int) (k : Nat), (∀ x ∈ w, blankZ x = false) → we w k = k + w.length
  | [], k, _ => rfl
  | x :: w, k, h => by
    simp only [we, h x (by simp), Bool.false_eq_true, if_false]
    rw [we_all w (k + 1) (fun y hy => h y (by simp [hy]))]
    simp; omega
theorem ws_word {w : List Int} (hw : WordOk w) (r : List Int) (k : Nat) : ws false (w ++ r) k = k := by
  obtain ⟨x, w', rfl⟩ : ∃ x w', w = x :: w' := by
    cases w with
    | nil => exact absurd rfl hw.ne
    | cons x w' => exact ⟨x, w', rfl⟩
  have hx := hw.nb x (by simp)
  have hx35 : x ≠ 35 := hw.sh x (by simp)
  simp only [List.cons_append, ws, if_neg hx35, hx, Bool.false_eq_true, if_false]
theorem word_pos {w : List Int} (hw : WordOk w) : 0 < w.length := List.length_pos_iff.2 hw.ne
theorem len_of_drop {X : List Int} {p : Nat} {a b : List Int} (h : X.drop p = a ++ b) (hp : p ≤ X.length) : X.length = p + a.length + b.length := by
  have := congrArg List.length h
  rw [List.length_drop, List.length_append] at this
  omega
theorem toksN_succ (f : Nat) (X : List Int) (p : Nat) : toksN (f + 1) X p = if ws false (X.drop p) p < X.length then (ws false (X.drop p) p, we (X.drop (ws false (X.drop p) p)) (ws false (X.drop p) p)) :: toksN f X (we (X.drop (ws false (X.drop p) p)) (ws false (X.drop p) p)) else [] := rfl
theorem toksN_lay : ∀ (ts : List (List Int × List Int)) (X tl : List Int) (f p : Nat), (∀ x ∈ ts, WordOk x.1 ∧ GapOk x.2) → X.drop p = layG ts ++ tl → p ≤ X.length → X.length < f + p →
    ∃ f', X.length < f' + (p + (layG ts).length) ∧ p + (layG ts).length ≤ X.length ∧ X.drop (p + (layG ts).length) = tl ∧ toksN f X p = layT p ts ++ toksN f' X (p + (layG ts).length)
  | [], X, tl, f, p, _, hd, hp, hf => ⟨f, by simpa [layG] using hf, by simpa [layG] using hp, by simpa [layG] using hd, by simp [layG, layT]⟩
  | x :: ts, X, tl, f, p, hok, hd, hp, hf => by
    obtain ⟨hw, hg⟩ := hok x (by simp)
    obtain ⟨b, g', hge, hb⟩ := hg.hd
    have hd1 : X.drop p = x.1 ++ (x.2 ++ (layG ts ++ tl)) := by rw [hd]; simp [layG]
    have hl1 := len_of_drop hd1 hp
    rw [List.length_append, List.length_append] at hl1
    have hwp := word_pos hw
    obtain ⟨f, rfl⟩ : ∃ f', f = f' + 1 := ⟨f - 1, by omega⟩
    have hws : ws false (X.drop p) p = p := by rw [hd1]; exact ws_word hw _ _
    have hwe : we (X.drop p) p = p + x.1.length := by
      rw [hd1, hge]
      exact we_word x.1 _ b p hw.nb hb
    have hd2 : X.drop (p + x.1.length) = x.2 ++ (layG ts ++ tl) := by rw [← List.drop_drop, hd1, List.drop_left]
    have hd3 : X.drop (p + x.1.length + x.2.length) = layG ts ++ tl := by rw [← List.drop_drop, hd2, List.drop_left]
    obtain ⟨f', h1, h2, h3, h4⟩ := toksN_lay ts X tl f (p + x.1.length + x.2.length) (fun y hy => hok y (by simp [hy])) hd3 (by omega) (by omega)
    have el : p + (layG (x :: ts)).length = p + x.1.length + x.2.length + (layG ts).length := by simp [layG]; omega
    rw [el]
    refine ⟨f', h1, h2, h3, ?_⟩
    have hlt : p < X.length := by omega
    rw [toksN_succ, hws, if_pos hlt, hwe, toksN_thru f hd2 hg.thru, h4]
    rfl
theorem toksN_end (f : Nat) (X : List Int) : toksN f X X.length = [] := by
  cases f with
  | zero => rfl
  | succ f =>
    unfold toksN
    rw [List.drop_length, if_neg]
    simp [ws]
theorem toksN_word {X w : List Int} {p f : Nat} (hw : WordOk w) (hd : X.drop p = w) (hp : p ≤ X.length) (hf : X.length < f + p) : toksN f X p = [(p, p + w.length)] := by
  have hl := len_of_drop (a := w) (b := []) (by simpa using hd) hp
  have hwp := word_pos hw
  obtain ⟨f, rfl⟩ : ∃ f', f = f' + 1 := ⟨f - 1, by simp at hl; omega⟩
  have hws : ws false (X.drop p) p = p := by
    have := ws_word hw [] p
    rw [List.append_nil] at this
    rw [hd]; exact this
  have hwe : we (X.drop p) p = p + w.length := by rw [hd]; exact we_all w p hw.nb
  have hXl : p + w.length = X.length := by simp at hl; omega
  rw [toksN_succ, hws, if_pos (by omega), hwe, hXl, toksN_end]
theorem layT_map : ∀ (ts : List (List Int × List Int)) (X tl : List Int) (p : Nat), X.drop p = layG ts ++ tl → p ≤ X.length → (layT p ts).map (fun x => ((x.1 : Int), (X.take x.2).drop x.1)) = layW p ts
  | [], X, tl, p, _, _ => rfl
  | x :: ts, X, tl, p, hd, hp => by
    have hd1 : X.drop p = x.1 ++ (x.2 ++ (layG ts ++ tl)) := by rw [hd]; simp [layG]
    have hl1 := len_of_drop hd1 hp
    rw [List.length_append, List.length_append] at hl1
    have hd2 : X.drop (p + x.1.length) = x.2 ++ (layG ts ++ tl) := by rw [← List.drop_drop, hd1, List.drop_left]
    have hd3 : X.drop (p + x.1.length + x.2.length) = layG ts ++ tl := by rw [← List.drop_drop, hd2, List.drop_left]
    simp only [layT, layW, List.map_cons]
    rw [layT_map ts X tl _ hd3 (by omega)]
    congr 1
    rw [List.drop_take, hd1, show p + x.1.length - p = x.1.length by omega, List.take_left]
theorem drop_app (a b : List Int) : (a ++ b).drop a.length = b := List.drop_left
/-- a head that is passed over, words with gaps, nothing more -/
theorem words_lay {pre : List Int} {ts : List (List Int × List Int)} (hpre : Thru pre) (hok : ∀ x ∈ ts, WordOk x.1 ∧ GapOk x.2) : wordsZ (pre ++ layG ts) = layW pre.length ts := by
  have hd : (pre ++ layG ts).drop pre.length = layG ts ++ [] := by rw [drop_app, List.append_nil]
  obtain ⟨f', h1, h2, h3, h4⟩ := toksN_lay ts (pre ++ layG ts) [] ((pre ++ layG ts).length + 1) pre.length hok hd (by simp) (by omega)
  unfold wordsZ toks
  rw [toksN_thru _ (show (pre ++ layG ts).drop 0 = pre ++ layG ts from rfl) hpre, Nat.zero_add, h4]
  have he : pre.length + (layG ts).length = (pre ++ layG ts).length := by simp
  rw [he, toksN_end, List.append_nil, layT_map ts _ [] _ hd (by simp)]
/-- and a word more at the end, with nothing behind it -/
theorem words_lay1 {pre w : List Int} {ts : List (List Int × List Int)} (hpre : Thru pre) (hok : ∀ x ∈ ts, WordOk x.1 ∧ GapOk x.2) (hw : WordOk w) :
    wordsZ (pre ++ (layG ts ++ w)) = layW pre.length ts ++ [(((pre.length + (layG ts).length : Nat) : Int), w)] := by
  have hd : (pre ++ (layG ts ++ w)).drop pre.length = layG ts ++ w := drop_app _ _
  obtain ⟨f', h1, h2, h3, h4⟩ := toksN_lay ts (pre ++ (layG ts ++ w)) w ((pre ++ (layG ts ++ w)).length + 1) pre.length hok hd (by simp) (by omega)
  unfold wordsZ toks
  rw [toksN_thru _ (show (pre ++ (layG ts ++ w)).drop 0 = pre ++ (layG ts ++ w) from rfl) hpre, Nat.zero_add, h4, toksN_word hw h3 h2 h1, List.map_append, layT_map ts _ w _ hd (by simp)]
  have hl := len_of_drop (a := w) (b := []) (by rw [List.append_nil]; exact h3) h2
  simp only [List.map_cons, List.map_nil]
  rw [List.drop_take, h3, show pre.length + (layG ts).length + w.length - (pre.length + (layG ts).length) = w.length by omega, List.take_length]
theorem thru_nil : Thru [] := fun _ _ => rfl
theorem layG_app (a b : List (List Int × List Int)) : layG (a ++ b) = layG a ++ layG b := by
  induction a with
  | nil => rfl
  | cons x a ih => simp [layG, ih]
theorem layW_app : ∀ (a b : List (List Int × List Int)) (p : Nat), layW p (a ++ b) = layW p a ++ layW (p + (layG a).length) b
  | [], b, p => by simp [layW, layG]
  | x :: a, b, p => by
    simp only [List.cons_append, layW, layG, layW_app a b, List.length_append]
    rw [show p + x.1.length + x.2.length + (layG a).length = p + (x.1.length + (x.2.length + (layG a).length)) by omega]
theorem layW_snd : ∀ (ts : List (List Int × List Int)) (p : Nat), (layW p ts).map (·.2) = ts.map (·.1)
  | [], _ => rfl
  | x :: ts, p => by simp [layW, layW_snd ts]
theorem layW_len (ts : List (List Int × List Int)) (p : Nat) : (layW p ts).length = ts.length := by
  have := congrArg List.length (layW_snd ts p)
  simpa using this
end Go.Proofs.YtdpbmkfgolemjaaDoor
