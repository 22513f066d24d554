/-
  Sorting by the last digit is laying into ten rows, one behind the other.
-/
import Derived.Test.YtmkegehkifpkjaaDigitI
namespace Go.Proofs.Ytmkegehkifpkjaa

theorem mrg_apart : ∀ (X Y xs ys : List Int), (∀ a ∈ X, ∀ b ∈ ys, dig a < dig b) → (∀ a ∈ Y, ∀ b ∈ xs, dig a < dig b) → mrgW ltD (X ++ xs) (Y ++ ys) = mrgW ltD X Y ++ mrgW ltD xs ys
  | [], [], xs, ys, _, _ => by rw [List.nil_append, List.nil_append, mrgW_nil, List.nil_append]
  | [], y :: Y, [], ys, _, _ => by rw [List.nil_append, mrgW_nil, mrgW_nil, mrgW_nil]
  | [], y :: Y, x :: xs, ys, h1, h2 => by
    have h : ltD y x = true := decide_eq_true (h2 y (List.mem_cons_self ..) x (List.mem_cons_self ..))
    have ih := mrg_apart [] Y (x :: xs) ys h1 (fun a ha => h2 a (List.mem_cons_of_mem _ ha))
    rw [List.nil_append] at ih ⊢
    rw [List.cons_append, mrgW_b h, ih, mrgW_nil, mrgW_nil, List.cons_append]
  | x :: X, [], xs, [], _, _ => by rw [List.nil_append, mrgW_nil2, mrgW_nil2, mrgW_nil2]
  | x :: X, [], xs, y :: ys, h1, h2 => by
    have h : ltD y x = false := decide_eq_false (by have := h1 x (List.mem_cons_self ..) y (List.mem_cons_self ..); omega)
    have ih := mrg_apart X [] xs (y :: ys) (fun a ha => h1 a (List.mem_cons_of_mem _ ha)) h2
    rw [List.nil_append] at ih ⊢
    rw [List.cons_append, mrgW_a h, ih, mrgW_nil2, mrgW_nil2, List.cons_append]
  | x :: X, y :: Y, xs, ys, h1, h2 => by
    rw [List.cons_append, List.cons_append]
    cases h : ltD y x with
    | true =>
      have ih := mrg_apart (x :: X) Y xs ys h1 (fun a ha => h2 a (List.mem_cons_of_mem _ ha))
      rw [List.cons_append] at ih
      rw [mrgW_b h, ih, mrgW_b h, List.cons_append]
    | false =>
      have ih := mrg_apart X (y :: Y) xs ys (fun a ha => h1 a (List.mem_cons_of_mem _ ha)) h2
      rw [List.cons_append] at ih
      rw [mrgW_a h, ih, mrgW_a h, List.cons_append]
termination_by X Y => X.length + Y.length
theorem mrg_alike : ∀ (xs ys : List Int), (∀ a ∈ xs, ∀ b ∈ ys, dig a ≤ dig b) → mrgW ltD xs ys = xs ++ ys
  | [], ys, _ => mrgW_nil _ _
  | x :: xs, [], _ => by rw [mrgW_nil2, List.append_nil]
  | x :: xs, y :: ys, h => by
    have h1 : ltD y x = false := decide_eq_false (by have := h x (List.mem_cons_self ..) y (List.mem_cons_self ..); omega)
    rw [mrgW_a h1, mrg_alike xs (y :: ys) (fun a ha => h a (List.mem_cons_of_mem _ ha))]
    rfl
/-- those of a digit; those of the first n digits, by these -/
def bkt (A : List Int) (d : Nat) : List Int := A.filter fun x => decide (dig x = (d : Int))
def bks (A : List Int) : Nat → List Int
  | 0 => []
  | n + 1 => bks A n ++ bkt A n
theorem bkt_dig {A : List Int} {d : Nat} {x : Int} (h : x ∈ bkt A d) : dig x = d := by simpa using (List.mem_filter.1 h).2
theorem bks_dig {A : List Int} {x : Int} : ∀ {n : Nat}, x ∈ bks A n → dig x < n
  | n + 1, h => by
    rcases List.mem_append.1 h with h | h
    · have := bks_dig h
      omega
    · have := bkt_dig h
      omega
theorem bkt_app (A B : List Int) (d : Nat) : bkt (A ++ B) d = bkt A d ++ bkt B d := by unfold bkt; rw [List.filter_append]
theorem mrg_bks (A B : List Int) : ∀ n : Nat, mrgW ltD (bks A n) (bks B n) = bks (A ++ B) n
  | 0 => mrgW_nil _ _
  | n + 1 => by
    show mrgW ltD (bks A n ++ bkt A n) (bks B n ++ bkt B n) = bks (A ++ B) n ++ bkt (A ++ B) n
    rw [mrg_apart _ _ _ _ (fun a ha b hb => by have := bks_dig ha; have := bkt_dig hb; omega) (fun a ha b hb => by have := bks_dig ha; have := bkt_dig hb; omega), mrg_bks A B n, mrg_alike _ _ (fun a ha b hb => by have := bkt_dig ha; have := bkt_dig hb; omega), bkt_app]
theorem bks_nil : ∀ n : Nat, bks [] n = []
  | 0 => rfl
  | n + 1 => by show bks [] n ++ [] = []; rw [bks_nil n]; rfl
theorem bks_one (x : Int) : ∀ n : Nat, bks [x] n = if dig x < n then [x] else []
  | 0 => by rw [if_neg (by have := dig_in x; omega)]; rfl
  | n + 1 => by
    show bks [x] n ++ bkt [x] n = _
    rw [bks_one x n]
    unfold bkt
    by_cases h : dig x = (n : Int)
    · rw [if_neg (by omega), if_pos (by omega)]
      simp [h]
    · by_cases h2 : dig x < (n : Int)
      · rw [if_pos h2, if_pos (by omega)]
        simp [h]
      · rw [if_neg h2, if_neg (by omega)]
        simp [h]
theorem msort_bks (A : List Int) : msort ltD A = bks A 10 := by
  induction A using msort_ind with
  | h1 l h =>
    rw [msort_small _ h]
    match l, h with
    | [], _ => rw [bks_nil]
    | [x], _ => rw [bks_one, if_pos (by have := dig_in x; omega)]
  | h2 l h a b => rw [msort_half _ h, a, b, mrg_bks, List.take_append_drop]
theorem bkt_snoc (A : List Int) (d : Nat) {i : Nat} (h : i < A.length) : bkt (A.take (i + 1)) d = bkt (A.take i) d ++ (if dig A[i] = (d : Int) then [A[i]] else []) := by
  rw [List.take_succ_eq_append_getElem h, bkt_app]
  congr 1
  unfold bkt
  by_cases e : dig A[i] = (d : Int)
  · simp [e]
  · simp [e]
theorem bkt_len (A : List Int) (d : Nat) : (bkt A d).length ≤ A.length := List.length_filter_le _ _
theorem bks_len (A : List Int) : ∀ n : Nat, (bks A n).length ≤ n * A.length
  | 0 => Nat.zero_le _
  | n + 1 => by
    show (bks A n ++ bkt A n).length ≤ _
    rw [List.length_append, Nat.succ_mul]
    have := bks_len A n
    have := bkt_len A n
    omega
end Go.Proofs.Ytmkegehkifpkjaa
