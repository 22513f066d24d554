/-
  An input's numbers, one by one, each with its limits: plain facts.
-/
import Derived.Test.YtdpbmkfgolemjaaDoorRdParses
import Derived.Test.YtdpbmkfgolemjaaDoorRdPrints
import Derived.Test.YtdpbmkfgolemjaaDoorOpRds
import Derived.Test.YtdpbmkfgolemjaaDoorBack
import Derived.Test.YtdpbmkfgolemjaaDoorRdRPrs
import Derived.Test.YtdpbmkfgolemjaaDoorWholeMath
import Derived.Test.YtdpbmkfgolemjaaDoorRdKnown
import Derived.Test.YtdpbmkfgolemjaaDoorRdChks
import Derived.Laws.AppendOwn
import Derived.Lib.AppendZeros
set_option linter.unusedVariables false
set_option linter.unusedSimpArgs false
set_option linter.deprecated false
namespace Go.Proofs.YtdpbmkfgolemjaaDoor

/-- the limits of the next number -/
def lim5 (ns : List Int) : Int × Int := if ns.length = 0 then (0, 200) else if ns.length < 3 then (0, 400) else if (ns.length : Int) < 3 + 2 * ns.getD 0 0 then (-1048576, 1048576) else (0, ns.getD 0 0 - 1)
/-- how many there are in all -/
def all5 (ns : List Int) : Int := if ns.length < 3 then 3 else 3 + 2 * (ns.getD 0 0 + ns.getD 1 0 + ns.getD 2 0)
/-- the numbers, or where they are wrong, and why -/
def go5 (en : Int) : List Int → List (Int × List Int) → List Int × Int × Int
  | ns, [] => if (ns.length : Int) = all5 ns then (ns, 0, 0) else ([], en, 11)
  | ns, x :: r => if (ns.length : Int) = all5 ns then ([], x.1, 11) else if (num5 (lim5 ns).1 (lim5 ns).2 x.2).2 = 0 then go5 en (ns ++ [(num5 (lim5 ns).1 (lim5 ns).2 x.2).1]) r else ([], x.1, (num5 (lim5 ns).1 (lim5 ns).2 x.2).2)
def doc5 (en : Int) : List (Int × List Int) → List Int × Int × Int
  | [] => ([], en, 11)
  | x :: r => if x.2 = wPoly5 then go5 en [] r else ([], x.1, 11)
theorem num_er5 (lo hi : Int) (t : List Int) : (num5 lo hi t).2 = 0 ∨ (num5 lo hi t).2 = 10 ∨ (num5 lo hi t).2 = 11 := by
  unfold num5
  split
  · split <;> simp
  · simp
theorem num_zero5 {lo hi v er : Int} {t : List Int} (h : num5 lo hi t = (v, er)) (he : er ≠ 0) : v = 0 := by
  unfold num5 at h
  split at h
  · split at h
    · exact absurd (Prod.mk.injEq .. ▸ h).2.symm he
    · exact (Prod.mk.injEq .. ▸ h).1.symm
  · exact (Prod.mk.injEq .. ▸ h).1.symm
theorem word_yes5 {en a : Nat} {w : List Int} {s : S5} {t : ByteArray} {r : List (Nat × ByteArray)} (h0 : s.e = 0) (hx : take5 en s.ts = ((a, t), r)) (h : nums t = w) : word5 en w s = ⟨r, s.at', 0⟩ := by
  unfold word5
  rw [if_neg (fun x => x h0), hx, if_pos h]
theorem word_no5 {en a : Nat} {w : List Int} {s : S5} {t : ByteArray} {r : List (Nat × ByteArray)} (h0 : s.e = 0) (hx : take5 en s.ts = ((a, t), r)) (h : nums t ≠ w) : word5 en w s = ⟨r, a, 11⟩ := by
  unfold word5
  rw [if_neg (fun x => x h0), hx, if_neg h]
theorem go_nil5 {en : Int} {ns : List Int} (h : (ns.length : Int) ≠ all5 ns) : go5 en ns [] = ([], en, 11) := by
  unfold go5
  rw [if_neg h]
theorem go_end5 {en : Int} {ns : List Int} (h : (ns.length : Int) = all5 ns) : go5 en ns [] = (ns, 0, 0) := by
  unfold go5
  rw [if_pos h]
theorem go_over5 {en : Int} {ns : List Int} {x : Int × List Int} {r : List (Int × List Int)} (h : (ns.length : Int) = all5 ns) : go5 en ns (x :: r) = ([], x.1, 11) := by
  conv => lhs; unfold go5
  rw [if_pos h]
theorem go_ok5 {en lo hi v : Int} {ns : List Int} {x : Int × List Int} {r : List (Int × List Int)} (h : (ns.length : Int) ≠ all5 ns) (hl : lim5 ns = (lo, hi)) (hn : num5 lo hi x.2 = (v, 0)) : go5 en ns (x :: r) = go5 en (ns ++ [v]) r := by
  conv => lhs; unfold go5
  rw [if_neg h, hl]
  dsimp only
  rw [hn, if_pos rfl]
theorem go_no5 {en lo hi v er : Int} {ns : List Int} {x : Int × List Int} {r : List (Int × List Int)} (h : (ns.length : Int) ≠ all5 ns) (hl : lim5 ns = (lo, hi)) (hn : num5 lo hi x.2 = (v, er)) (he : er ≠ 0) : go5 en ns (x :: r) = ([], x.1, er) := by
  conv => lhs; unfold go5
  rw [if_neg h, hl]
  dsimp only
  rw [hn, if_neg he]
/-- what a reading of the program's is against the rest -/
def Rel5 (en : Nat) (ns : List Int) (s : S5) (vs : List Int) (s' : S5) : Prop :=
  (s'.e = 0 ∧ go5 en ns (tz6 s.ts) = go5 en (ns ++ vs) (tz6 s'.ts)) ∨ (s'.e ≠ 0 ∧ go5 en ns (tz6 s.ts) = ([], s'.at', s'.e))
theorem rd_go5 {en : Nat} {ns : List Int} {s : S5} {lo hi : Int} (h0 : s.e = 0) (hlt : (ns.length : Int) ≠ all5 ns) (hlim : lim5 ns = (lo, hi)) : Rel5 en ns s [(rd5 en lo hi s).1] (rd5 en lo hi s).2 := by
  obtain ⟨ts, at', e⟩ := s
  dsimp only at h0
  subst h0
  cases ts with
  | nil =>
    right
    have hx : num5 lo hi (nums (⟨#[]⟩ : ByteArray)) = (0, 11) := by unfold num5; rw [if_neg (by decide)]
    have hr : rd5 en lo hi ⟨[], at', 0⟩ = (0, ⟨[], en, 11⟩) := rd_no5 rfl rfl (by decide) hx
    rw [hr]
    exact ⟨by simp, go_nil5 hlt⟩
  | cons x r =>
    obtain ⟨v, er, hn⟩ : ∃ v er, num5 lo hi (nums x.2) = (v, er) := ⟨_, _, rfl⟩
    by_cases he : er = 0
    · subst he
      left
      have hr : rd5 en lo hi ⟨x :: r, at', 0⟩ = (v, ⟨r, at', 0⟩) := rd_ok5 rfl rfl hn
      rw [hr]
      exact ⟨rfl, go_ok5 (x := ((x.1 : Int), nums x.2)) (r := tz6 r) hlt hlim hn⟩
    · right
      obtain rfl := num_zero5 hn he
      have hr : rd5 en lo hi ⟨x :: r, at', 0⟩ = (0, ⟨r, x.1, er⟩) := rd_no5 rfl rfl he hn
      rw [hr]
      exact ⟨he, go_no5 (x := ((x.1 : Int), nums x.2)) (r := tz6 r) hlt hlim hn he⟩
theorem rd_stuck5 {en : Nat} {lo hi : Int} {s : S5} (h : s.e ≠ 0) : rd5 en lo hi s = (0, s) := by unfold rd5; rw [if_pos h]
theorem Rel5.trans {en : Nat} {ns vs us : List Int} {s s' s2 : S5} (h : Rel5 en ns s vs s') (k : s'.e = 0 → Rel5 en (ns ++ vs) s' us s2) (k2 : s'.e ≠ 0 → s2 = s') : Rel5 en ns s (vs ++ us) s2 := by
  rcases h with ⟨h1, h2⟩ | ⟨h1, h2⟩
  · rcases k h1 with ⟨k3, k4⟩ | ⟨k3, k4⟩
    · exact .inl ⟨k3, by rw [h2, k4, List.append_assoc]⟩
    · exact .inr ⟨k3, by rw [h2, k4]⟩
  · rw [k2 h1]
    exact .inr ⟨h1, h2⟩
def flat5 (l : List (Int × Int)) : List Int := l.flatMap fun q => [q.1, q.2]
theorem flat_len5 (l : List (Int × Int)) : (flat5 l).length = 2 * l.length := by
  induction l with
  | nil => rfl
  | cons q l ih => simp only [flat5, List.flatMap_cons, List.length_append, List.length_cons, List.length_nil] at ih ⊢; omega
theorem rdP_stuck5 {en : Nat} {lo hi : Int} {s : S5} (h : s.e ≠ 0) : ∀ k, (rdP5 en lo hi k s).2 = s
  | 0 => rfl
  | k + 1 => by
    simp only [rdP5, rd_stuck5 h]
    exact rdP_stuck5 h k
/-- the next numbers all have these limits -/
def Con5 (ns : List Int) (n : Nat) (lo hi : Int) : Prop := ∀ xs : List Int, xs.length < n → lim5 (ns ++ xs) = (lo, hi) ∧ ((ns ++ xs).length : Int) ≠ all5 (ns ++ xs)
theorem Con5.app {ns : List Int} {n : Nat} {lo hi : Int} (h : Con5 ns n lo hi) (vs : List Int) (m : Nat) (hm : vs.length + m ≤ n) : Con5 (ns ++ vs) m lo hi := by
  intro xs hx
  have := h (vs ++ xs) (by rw [List.length_append]; omega)
  rw [← List.append_assoc] at this
  exact this
theorem Con5.here {ns : List Int} {n : Nat} {lo hi : Int} (h : Con5 ns n lo hi) (hn : 0 < n) : lim5 ns = (lo, hi) ∧ (ns.length : Int) ≠ all5 ns := by
  have := h [] hn
  rw [List.append_nil] at this
  exact this
theorem rdP_go5 {en : Nat} {lo hi : Int} : ∀ (k : Nat) (ns : List Int) (s : S5), s.e = 0 → Con5 ns (2 * k) lo hi → Rel5 en ns s (flat5 (rdP5 en lo hi k s).1) (rdP5 en lo hi k s).2
  | 0, ns, s, h0, _ => .inl ⟨h0, by simp [flat5, rdP5]⟩
  | k + 1, ns, s, h0, hc => by
    have c1 := hc.here (by omega)
    have a := rd_go5 (en := en) h0 c1.2 c1.1
    simp only [rdP5]
    have e : flat5 (((rd5 en lo hi s).1, (rd5 en lo hi (rd5 en lo hi s).2).1) :: (rdP5 en lo hi k (rd5 en lo hi (rd5 en lo hi s).2).2).1) = [(rd5 en lo hi s).1] ++ ([(rd5 en lo hi (rd5 en lo hi s).2).1] ++ flat5 (rdP5 en lo hi k (rd5 en lo hi (rd5 en lo hi s).2).2).1) := rfl
    rw [e]
    refine a.trans (fun h1 => ?_) (fun h1 => by rw [rd_stuck5 h1, rdP_stuck5 h1])
    have c2 := (hc.app [(rd5 en lo hi s).1] (2 * k + 1) (by simp; omega)).here (by omega)
    refine (rd_go5 (en := en) h1 c2.2 c2.1).trans (fun h2 => ?_) (fun h2 => rdP_stuck5 h2 k)
    refine rdP_go5 k _ _ h2 ?_
    exact (hc.app [(rd5 en lo hi s).1] (2 * k + 1) (by simp; omega)).app _ _ (by simp; omega)
theorem getD_app5 {a b : List Int} {i : Nat} (h : i < a.length) : (a ++ b).getD i 0 = a.getD i 0 := by
  rw [List.getD_eq_getElem?_getD, List.getElem?_append_left h, ← List.getD_eq_getElem?_getD]
theorem lim_app5 {ns : List Int} (h : 3 ≤ ns.length) (xs : List Int) : lim5 (ns ++ xs) = if ((ns.length : Int) + xs.length) < 3 + 2 * ns.getD 0 0 then (-1048576, 1048576) else (0, ns.getD 0 0 - 1) := by
  unfold lim5
  rw [if_neg (by rw [List.length_append]; omega), if_neg (by rw [List.length_append]; omega), getD_app5 (by omega), List.length_append, Int.natCast_add]
theorem all_app5 {ns : List Int} (h : 3 ≤ ns.length) (xs : List Int) : all5 (ns ++ xs) = 3 + 2 * (ns.getD 0 0 + ns.getD 1 0 + ns.getD 2 0) := by
  unfold all5
  rw [if_neg (by rw [List.length_append]; omega), getD_app5 (by omega), getD_app5 (by omega), getD_app5 (by omega)]
theorem con_p5 {x y z : Nat} : Con5 [(x : Int), y, z] (2 * x) (-1048576) 1048576 := by
  intro xs hx
  rw [lim_app5 (by simp), all_app5 (by simp), if_pos]
  · refine ⟨rfl, ?_⟩
    simp
    omega
  · simp
    omega
theorem con_s5 {x y z m : Nat} {vs : List Int} (hv : vs.length = m) (h1 : 2 * x ≤ m) (n : Nat) (h2 : m + n ≤ 2 * (x + y + z)) : Con5 ([(x : Int), y, z] ++ vs) n 0 ((x : Int) - 1) := by
  intro xs hx
  rw [List.append_assoc, lim_app5 (by simp), all_app5 (by simp), if_neg]
  · refine ⟨rfl, ?_⟩
    simp
    omega
  · simp
    omega
/-- the numbers of an input -/
def numsI5 (p l i : List (Int × Int)) : List Int := [(p.length : Int), l.length, i.length] ++ (flat5 p ++ (flat5 l ++ flat5 i))
theorem numsI_len5 (p l i : List (Int × Int)) : ((numsI5 p l i).length : Int) = all5 (numsI5 p l i) := by
  unfold numsI5
  rw [all_app5 (by simp)]
  simp [flat_len5]
  omega
/-- no word is empty -/
def Full5 (s : S5) : Prop := ∀ x ∈ s.ts, nums x.2 ≠ []
theorem rd_full5 {en : Nat} {lo hi : Int} {s : S5} (h : Full5 s) : Full5 (rd5 en lo hi s).2 := by
  have ht : ∀ x ∈ (take5 en s.ts).2, nums x.2 ≠ [] := fun x hx => h x (by rw [take_sub5] at hx; exact List.mem_of_mem_tail hx)
  unfold rd5
  split
  · exact h
  · split <;> exact ht
theorem rdP_full5 {en : Nat} {lo hi : Int} : ∀ (k : Nat) (s : S5), Full5 s → Full5 (rdP5 en lo hi k s).2
  | 0, _, h => h
  | k + 1, s, h => rdP_full5 k _ (rd_full5 (rd_full5 h))
theorem word_go5 {en : Nat} {s : S5} (h0 : s.e = 0) (hf : Full5 s) {ns : List Int} (h : (ns.length : Int) = all5 ns) : ((word5 en [] s).e = 0 ∧ go5 en ns (tz6 s.ts) = (ns, 0, 0)) ∨ ((word5 en [] s).e ≠ 0 ∧ go5 en ns (tz6 s.ts) = ([], (word5 en [] s).at', (word5 en [] s).e)) := by
  obtain ⟨ts, at', e⟩ := s
  dsimp only at h0
  subst h0
  cases ts with
  | nil =>
    left
    have e : word5 en [] ⟨[], at', 0⟩ = ⟨[], at', 0⟩ := word_yes5 rfl rfl rfl
    rw [e]
    exact ⟨rfl, go_end5 h⟩
  | cons x r =>
    right
    have e : word5 en [] ⟨x :: r, at', 0⟩ = ⟨r, x.1, 11⟩ := word_no5 rfl rfl (hf x (by simp))
    rw [e]
    exact ⟨by simp, go_over5 (x := ((x.1 : Int), nums x.2)) (r := tz6 r) h⟩
theorem word_stuck5 {en : Nat} {w : List Int} {s : S5} (h : s.e ≠ 0) : word5 en w s = s := by unfold word5; rw [if_pos h]
/-- the rest behind the three first numbers -/
theorem body_go5 {en : Nat} {x y z : Nat} {s : S5} (h0 : s.e = 0) (hf : Full5 s) :
    ((body5 en x y z s).2.e = 0 ∧ (body5 en x y z s).1.p.length = x ∧ (body5 en x y z s).1.l.length = y ∧ (body5 en x y z s).1.i.length = z ∧ go5 en [(x : Int), y, z] (tz6 s.ts) = (numsI5 (body5 en x y z s).1.p (body5 en x y z s).1.l (body5 en x y z s).1.i, 0, 0)) ∨
    ((body5 en x y z s).2.e ≠ 0 ∧ go5 en [(x : Int), y, z] (tz6 s.ts) = ([], (body5 en x y z s).2.at', (body5 en x y z s).2.e)) := by
  rw [body_nat5]
  dsimp only
  obtain ⟨P, hP⟩ : ∃ P, rdP5 en (-1048576) 1048576 x s = P := ⟨_, rfl⟩
  obtain ⟨L, hL⟩ : ∃ L, rdP5 en 0 ((x : Int) - 1) y P.2 = L := ⟨_, rfl⟩
  obtain ⟨I, hI⟩ : ∃ I, rdP5 en 0 ((x : Int) - 1) z L.2 = I := ⟨_, rfl⟩
  have lP : P.1.length = x := by rw [← hP]; exact rdP_len5 ..
  have lL : L.1.length = y := by rw [← hL]; exact rdP_len5 ..
  have lI : I.1.length = z := by rw [← hI]; exact rdP_len5 ..
  have fP : Full5 P.2 := by rw [← hP]; exact rdP_full5 _ _ hf
  have fL : Full5 L.2 := by rw [← hL]; exact rdP_full5 _ _ fP
  have fI : Full5 I.2 := by rw [← hI]; exact rdP_full5 _ _ fL
  have a := rdP_go5 (en := en) x [(x : Int), y, z] s h0 con_p5
  rw [hP] at a ⊢
  rw [hL]
  rw [hI]
  have b : Rel5 en [(x : Int), y, z] s (flat5 P.1 ++ (flat5 L.1 ++ flat5 I.1)) I.2 := by
    refine a.trans (fun h1 => ?_) (fun h1 => by rw [← hI, ← hL, rdP_stuck5 h1, rdP_stuck5 h1])
    have c := rdP_go5 (en := en) y ([(x : Int), y, z] ++ flat5 P.1) P.2 h1 (con_s5 (m := 2 * x) (by rw [flat_len5, lP]) (Nat.le_refl _) _ (by omega))
    rw [hL] at c
    refine c.trans (fun h2 => ?_) (fun h2 => by rw [← hI, rdP_stuck5 h2])
    have d := rdP_go5 (en := en) z ([(x : Int), y, z] ++ flat5 P.1 ++ flat5 L.1) L.2 h2 (by
      rw [List.append_assoc]
      exact con_s5 (m := 2 * x + 2 * y) (by rw [List.length_append, flat_len5, flat_len5, lP, lL]) (by omega) _ (by omega))
    rw [hI] at d
    exact d
  have hN : [(x : Int), y, z] ++ (flat5 P.1 ++ (flat5 L.1 ++ flat5 I.1)) = numsI5 P.1 L.1 I.1 := by unfold numsI5; rw [lP, lL, lI]
  rcases b with ⟨b1, b2⟩ | ⟨b1, b2⟩
  · rw [hN] at b2
    rcases word_go5 (en := en) b1 fI (numsI_len5 P.1 L.1 I.1) with ⟨c1, c2⟩ | ⟨c1, c2⟩
    · exact .inl ⟨c1, lP, lL, lI, by rw [b2, c2]⟩
    · exact .inr ⟨c1, by rw [b2, c2]⟩
  · rw [word_stuck5 b1]
    exact .inr ⟨b1, b2⟩
theorem body_stuck5 {en : Nat} {x y z : Int} {s : S5} (h : s.e ≠ 0) : (body5 en x y z s).2 = s := by
  unfold body5
  dsimp only
  rw [rdP_stuck5 h, rdP_stuck5 h, rdP_stuck5 h, word_stuck5 h]
/-- the program's reading is the document's -/
theorem poly_go5 {en : Nat} {ts : List (Nat × ByteArray)} (hf : ∀ x ∈ ts, nums x.2 ≠ []) :
    ((poly5 en ⟨ts, 0, 0⟩).2.e = 0 ∧ doc5 en (tz6 ts) = (numsI5 (poly5 en ⟨ts, 0, 0⟩).1.p (poly5 en ⟨ts, 0, 0⟩).1.l (poly5 en ⟨ts, 0, 0⟩).1.i, 0, 0)) ∨
    ((poly5 en ⟨ts, 0, 0⟩).2.e ≠ 0 ∧ doc5 en (tz6 ts) = ([], (poly5 en ⟨ts, 0, 0⟩).2.at', (poly5 en ⟨ts, 0, 0⟩).2.e)) := by
  unfold poly5 head5 two5
  dsimp only
  obtain ⟨s, hs⟩ : ∃ s, word5 en wPoly5 ⟨ts, 0, 0⟩ = s := ⟨_, rfl⟩
  rw [hs]
  have key : (s.e = 0 ∧ Full5 s ∧ doc5 en (tz6 ts) = go5 en [] (tz6 s.ts)) ∨ (s.e ≠ 0 ∧ doc5 en (tz6 ts) = ([], s.at', s.e)) := by
    rw [← hs]
    cases ts with
    | nil =>
      right
      have e : word5 en wPoly5 ⟨[], 0, 0⟩ = ⟨[], en, 11⟩ := word_no5 rfl rfl (by decide)
      rw [e]
      exact ⟨by simp, rfl⟩
    | cons x r =>
      by_cases hx : nums x.2 = wPoly5
      · left
        rw [word_yes5 (s := ⟨x :: r, 0, 0⟩) rfl rfl hx]
        refine ⟨rfl, fun y hy => hf y (by simp only [List.mem_cons]; exact .inr hy), ?_⟩
        show (if nums x.2 = wPoly5 then _ else _) = _
        rw [if_pos hx]
        rfl
      · right
        rw [word_no5 (s := ⟨x :: r, 0, 0⟩) rfl rfl hx]
        refine ⟨by simp, ?_⟩
        show (if nums x.2 = wPoly5 then _ else _) = _
        rw [if_neg hx]
  rcases key with ⟨h0, hfs, hg⟩ | ⟨h0, hg⟩
  · obtain ⟨a, ha⟩ : ∃ a, rd5 en 0 200 s = a := ⟨_, rfl⟩
    obtain ⟨b, hb⟩ : ∃ b, rd5 en 0 400 a.2 = b := ⟨_, rfl⟩
    obtain ⟨c, hc⟩ : ∃ c, rd5 en 0 400 b.2 = c := ⟨_, rfl⟩
    rw [ha, hb, hc]
    have r1 : Rel5 en [] s ([a.1] ++ ([b.1] ++ [c.1])) c.2 := by
      have x1 := rd_go5 (en := en) (ns := []) h0 (by decide) (show lim5 [] = (0, 200) from rfl)
      rw [ha] at x1
      refine x1.trans (fun h1 => ?_) (fun h1 => by rw [← hc, ← hb, rd_stuck5 h1, rd_stuck5 h1])
      have x2 := rd_go5 (en := en) (ns := [a.1]) h1 (show (1 : Int) ≠ 3 by decide) (show lim5 [a.1] = (0, 400) from rfl)
      rw [hb] at x2
      refine x2.trans (fun h2 => ?_) (fun h2 => by rw [← hc, rd_stuck5 h2])
      have x3 := rd_go5 (en := en) (ns := [a.1, b.1]) h2 (show (2 : Int) ≠ 3 by decide) (show lim5 [a.1, b.1] = (0, 400) from rfl)
      rw [hc] at x3
      exact x3
    have fc : Full5 c.2 := by rw [← hc]; refine rd_full5 ?_; rw [← hb]; refine rd_full5 ?_; rw [← ha]; exact rd_full5 hfs
    have ga : 0 ≤ a.1 := by rw [← ha]; exact (rd_bounds5 en 0 200 (by decide) (by decide) _).1
    have gb : 0 ≤ b.1 := by rw [← hb]; exact (rd_bounds5 en 0 400 (by decide) (by decide) _).1
    have gc : 0 ≤ c.1 := by rw [← hc]; exact (rd_bounds5 en 0 400 (by decide) (by decide) _).1
    obtain ⟨x, hx⟩ : ∃ x : Nat, a.1 = x := ⟨a.1.toNat, by omega⟩
    obtain ⟨y, hy⟩ : ∃ y : Nat, b.1 = y := ⟨b.1.toNat, by omega⟩
    obtain ⟨z, hz⟩ : ∃ z : Nat, c.1 = z := ⟨c.1.toNat, by omega⟩
    rw [hx, hy, hz]
    rw [hx, hy, hz] at r1
    rcases r1 with ⟨k1, k2⟩ | ⟨k1, k2⟩
    · rcases body_go5 (en := en) (x := x) (y := y) (z := z) k1 fc with ⟨q1, -, -, -, q2⟩ | ⟨q1, q2⟩
      · exact .inl ⟨q1, by rw [hg, k2]; exact q2⟩
      · exact .inr ⟨q1, by rw [hg, k2]; exact q2⟩
    · rw [body_stuck5 k1]
      exact .inr ⟨k1, by rw [hg, k2]⟩
  · right
    rw [rd_stuck5 h0, rd_stuck5 h0, rd_stuck5 h0, body_stuck5 h0]
    exact ⟨h0, hg⟩
theorem words_full5 (s : ByteArray) : ∀ x ∈ wordsOf s, nums x.2 ≠ [] := by
  intro x hx
  obtain ⟨i, hi, rfl⟩ := List.getElem_of_mem hx
  exact (word_ok s hi).ne
/-- what the program reads, by the document's way -/
theorem prog_go5 (s : ByteArray) : (doc5 s.size (wordsZ (nums s))).2 = (prog5 s).2 ∧ ((prog5 s).2.2 = 0 → (doc5 s.size (wordsZ (nums s))).1 = numsI5 (prog5 s).1.p (prog5 s).1.l (prog5 s).1.i) ∧ ((prog5 s).2.2 ≠ 0 → (prog5 s).1 = ⟨[], [], []⟩ ∧ (doc5 s.size (wordsZ (nums s))).1 = []) := by
  rw [← tz_words6]
  unfold prog5
  rcases poly_go5 (en := s.size) (words_full5 s) with ⟨h1, h2⟩ | ⟨h1, h2⟩
  · rw [if_neg (fun x => x h1), h2]
    exact ⟨rfl, fun _ => rfl, fun h => absurd rfl h⟩
  · rw [if_pos h1, h2]
    exact ⟨rfl, fun h => absurd h h1, fun _ => ⟨rfl, rfl⟩⟩
end Go.Proofs.YtdpbmkfgolemjaaDoor

/-
  An input's text is read as it was: plain facts.
-/
namespace Go.Proofs.YtdpbmkfgolemjaaDoor

theorem doc_cons5 (en : Int) (x : Int × List Int) (r : List (Int × List Int)) : doc5 en (x :: r) = if x.2 = wPoly5 then go5 en [] r else ([], x.1, 11) := rfl
/-- numbers, each in its limits -/
def Lim5 : List Int → List Int → Prop
  | _, [] => True
  | ns, z :: zs => ((ns.length : Int) ≠ all5 ns ∧ (lim5 ns).1 ≤ z ∧ z ≤ (lim5 ns).2) ∧ Lim5 (ns ++ [z]) zs
theorem lim_app_iff5 : ∀ (a : List Int) (ns b : List Int), Lim5 ns (a ++ b) ↔ Lim5 ns a ∧ Lim5 (ns ++ a) b
  | [], ns, b => by simp [Lim5]
  | z :: a, ns, b => by
    simp only [List.cons_append, Lim5]
    rw [lim_app_iff5 a (ns ++ [z]) b, List.append_assoc]
    exact ⟨fun h => ⟨⟨h.1, h.2.1⟩, h.2.2⟩, fun h => ⟨h.1.1, h.1.2, h.2⟩⟩
theorem lim_con5 {lo hi : Int} : ∀ (zs ns : List Int), Con5 ns zs.length lo hi → (Lim5 ns zs ↔ ∀ z ∈ zs, lo ≤ z ∧ z ≤ hi)
  | [], ns, _ => by simp [Lim5]
  | z :: zs, ns, h => by
    obtain ⟨h1, h2⟩ := h.here (by simp)
    simp only [Lim5]
    rw [lim_con5 zs (ns ++ [z]) (h.app [z] zs.length (by simp; omega)), h1]
    simp only [List.mem_cons, forall_eq_or_imp]
    exact ⟨fun x => ⟨x.1.2, x.2⟩, fun x => ⟨⟨h2, x.1⟩, x.2⟩⟩
theorem flat_mem5 {l : List (Int × Int)} {f : Int → Prop} : (∀ z ∈ flat5 l, f z) ↔ ∀ q ∈ l, f q.1 ∧ f q.2 := by
  unfold flat5
  simp only [List.mem_flatMap, List.mem_cons, List.not_mem_nil, or_false]
  constructor
  · intro h q hq
    exact ⟨h _ ⟨q, hq, .inl rfl⟩, h _ ⟨q, hq, .inr rfl⟩⟩
  · rintro h z ⟨q, hq, rfl | rfl⟩
    · exact (h q hq).1
    · exact (h q hq).2
/-- an input may be, just if its numbers are in their limits -/
theorem lim_ok5 (p l i : List (Int × Int)) : Lim5 [] (numsI5 p l i) ↔ okI5 p l i = true := by
  unfold numsI5
  rw [lim_app_iff5, lim_app_iff5, lim_app_iff5]
  have h3 : Lim5 [] [(p.length : Int), l.length, i.length] ↔ (p.length ≤ 200 ∧ l.length ≤ 400 ∧ i.length ≤ 400) := by
    simp only [Lim5, List.nil_append, List.cons_append, and_true]
    simp only [show lim5 [] = (0, 200) from rfl, show ∀ a : Int, lim5 [a] = (0, 400) from fun _ => rfl, show ∀ a b : Int, lim5 [a, b] = (0, 400) from fun _ _ => rfl, show all5 [] = 3 from rfl, show ∀ a : Int, all5 [a] = 3 from fun _ => rfl, show ∀ a b : Int, all5 [a, b] = 3 from fun _ _ => rfl]
    simp
    omega
  have hp : Lim5 ([] ++ [(p.length : Int), l.length, i.length]) (flat5 p) ↔ ∀ z ∈ flat5 p, (-1048576 : Int) ≤ z ∧ z ≤ 1048576 := lim_con5 _ _ (by rw [flat_len5]; exact con_p5)
  have hl : Lim5 ([] ++ [(p.length : Int), l.length, i.length] ++ flat5 p) (flat5 l) ↔ ∀ z ∈ flat5 l, (0 : Int) ≤ z ∧ z ≤ (p.length : Int) - 1 := lim_con5 _ _ (by rw [flat_len5]; exact con_s5 (flat_len5 p) (Nat.le_refl _) _ (by omega))
  have hi : Lim5 ([] ++ [(p.length : Int), l.length, i.length] ++ flat5 p ++ flat5 l) (flat5 i) ↔ ∀ z ∈ flat5 i, (0 : Int) ≤ z ∧ z ≤ (p.length : Int) - 1 := lim_con5 _ _ (by rw [flat_len5, List.append_assoc]; exact con_s5 (m := 2 * p.length + 2 * l.length) (by rw [List.length_append, flat_len5, flat_len5]) (by omega) _ (by omega))
  rw [h3, hp, hl, hi, flat_mem5, flat_mem5, flat_mem5]
  unfold okI5 ptsV5 segsV5
  simp only [Bool.and_eq_true, List.all_eq_true, decide_eq_true_eq, placeB5, sgInB5]
  constructor
  · rintro ⟨⟨a, b, c⟩, d, e, f⟩
    refine ⟨⟨⟨fun q hq => ?_, a⟩, fun q hq => ?_, b⟩, fun q hq => ?_, c⟩
    · have := d q hq; omega
    · have := e q hq; omega
    · have := f q hq; omega
  · rintro ⟨⟨⟨d, a⟩, e, b⟩, f, c⟩
    refine ⟨⟨a, b, c⟩, fun q hq => ?_, fun q hq => ?_, fun q hq => ?_⟩
    · have := d q hq; omega
    · have := e q hq; omega
    · have := f q hq; omega
theorem num_lim5 {lo hi : Int} {t : List Int} {v : Int} (h : num5 lo hi t = (v, 0)) : lo ≤ v ∧ v ≤ hi := by
  unfold num5 at h
  split at h
  · split at h
    · rename_i hh
      obtain ⟨rfl, -⟩ := Prod.mk.injEq .. ▸ h
      exact hh
    · exact absurd (Prod.mk.injEq .. ▸ h).2 (by decide)
  · exact absurd (Prod.mk.injEq .. ▸ h).2 (by decide)
/-- what is read is in its limits -/
theorem go_lims5 {en : Int} : ∀ (ts : List (Int × List Int)) (ns : List Int), (go5 en ns ts).2.2 = 0 → ∃ zs, (go5 en ns ts).1 = ns ++ zs ∧ Lim5 ns zs
  | [], ns, h => by
    by_cases hl : (ns.length : Int) = all5 ns
    · rw [go_end5 hl]
      exact ⟨[], by simp, trivial⟩
    · rw [go_nil5 hl] at h
      exact absurd h (show (11 : Int) ≠ 0 by decide)
  | x :: r, ns, h => by
    by_cases hl : (ns.length : Int) = all5 ns
    · rw [go_over5 hl] at h
      exact absurd h (show (11 : Int) ≠ 0 by decide)
    · obtain ⟨v, er, hn⟩ : ∃ v er, num5 (lim5 ns).1 (lim5 ns).2 x.2 = (v, er) := ⟨_, _, rfl⟩
      by_cases he : er = 0
      · subst he
        rw [go_ok5 hl rfl hn] at h ⊢
        obtain ⟨zs, h1, h2⟩ := go_lims5 r (ns ++ [v]) h
        exact ⟨v :: zs, by rw [h1, List.append_assoc]; rfl, ⟨hl, num_lim5 hn⟩, h2⟩
      · rw [go_no5 hl rfl hn he] at h
        exact absurd h he
/-- where it is wrong: at one of the words, or at the end -/
theorem go_at5 {en : Int} : ∀ (ts : List (Int × List Int)) (ns : List Int), (go5 en ns ts).2.2 ≠ 0 → (go5 en ns ts).2.1 = en ∨ ∃ x ∈ ts, (go5 en ns ts).2.1 = x.1
  | [], ns, h => by
    by_cases hl : (ns.length : Int) = all5 ns
    · rw [go_end5 hl] at h
      exact absurd rfl h
    · rw [go_nil5 hl]
      exact .inl rfl
  | x :: r, ns, h => by
    by_cases hl : (ns.length : Int) = all5 ns
    · rw [go_over5 hl]
      exact .inr ⟨x, by simp, rfl⟩
    · obtain ⟨v, er, hn⟩ : ∃ v er, num5 (lim5 ns).1 (lim5 ns).2 x.2 = (v, er) := ⟨_, _, rfl⟩
      by_cases he : er = 0
      · subst he
        rw [go_ok5 hl rfl hn] at h ⊢
        rcases go_at5 r _ h with h1 | ⟨y, hy, h1⟩
        · exact .inl h1
        · exact .inr ⟨y, by simp [hy], h1⟩
      · rw [go_no5 hl rfl hn he]
        exact .inr ⟨x, by simp, rfl⟩
/-- a word that is a number's text -/
def Says5 (t : List Int) (z : Int) : Prop := validB6 t = true ∧ sgZ6 t = z
theorem num_says5 {t : List Int} {z lo hi : Int} (h : Says5 t z) : num5 lo hi t = if lo ≤ z ∧ z ≤ hi then (z, 0) else (0, 10) := by
  unfold num5
  rw [if_pos h.1, h.2]
/-- words in their limits are read -/
theorem go_read5 {en : Int} : ∀ (us : List (Int × List Int)) (zs ns : List Int) (r : List (Int × List Int)), us.length = zs.length → (∀ i (h : i < us.length) (h2 : i < zs.length), Says5 us[i].2 zs[i]) → Lim5 ns zs → go5 en ns (us ++ r) = go5 en (ns ++ zs) r
  | [], [], ns, r, _, _, _ => by simp
  | x :: us, z :: zs, ns, r, hl, hs, hm => by
    have h0 := hs 0 (by simp) (by simp)
    have h0' : Says5 x.2 z := h0
    have e : num5 (lim5 ns).1 (lim5 ns).2 x.2 = (z, 0) := by
      rw [num_says5 h0']
      exact if_pos hm.1.2
    rw [List.cons_append, go_ok5 hm.1.1 rfl e, go_read5 us zs (ns ++ [z]) r (by simpa using hl) (fun i h h2 => hs (i + 1) (by simp; omega) (by simp; omega)) hm.2, List.append_assoc]
    rfl
  | [], z :: zs, _, _, h, _, _ => by cases h
  | x :: us, [], _, _, h, _, _ => by cases h
theorem go_bad5 {en : Int} {ns : List Int} {x : Int × List Int} {r : List (Int × List Int)} (h : (ns.length : Int) ≠ all5 ns) (hb : validB6 x.2 = false) : go5 en ns (x :: r) = ([], x.1, 11) := by
  refine go_no5 (v := 0) h rfl ?_ (by decide)
  unfold num5
  rw [hb]
  rfl
theorem go_out5 {en z : Int} {ns : List Int} {x : Int × List Int} {r : List (Int × List Int)} (h : (ns.length : Int) ≠ all5 ns) (hs : Says5 x.2 z) (hb : z < (lim5 ns).1 ∨ (lim5 ns).2 < z) : go5 en ns (x :: r) = ([], x.1, 10) := by
  obtain ⟨lo, hi, hl⟩ : ∃ lo hi, lim5 ns = (lo, hi) := ⟨_, _, rfl⟩
  rw [hl] at hb
  dsimp only at hb
  refine go_no5 (v := 0) h hl ?_ (by decide)
  rw [num_says5 hs, if_neg (by omega)]
/-- a number's text -/
theorem says_text5 {z : Int} (h0 : -BIG < z) (h1 : z < BIG) : Says5 (textZ z) z := by
  obtain ⟨h2, -, h3, -⟩ := textZ_dig z h0 h1
  exact ⟨(validB_iff6 _).2 h2, h3⟩
theorem word_text5 {z : Int} (h0 : -BIG < z) (h1 : z < BIG) : WordOk (textZ z) := by
  obtain ⟨-, -, -, h4⟩ := textZ_dig z h0 h1
  have key : ∀ d ∈ textZ z, d = 45 ∨ (48 ≤ d ∧ d ≤ 57) := by
    intro d hd
    rcases textZ_cases z h0 h1 with ⟨-, e⟩ | ⟨-, e, -⟩ | ⟨-, e, -⟩ <;> rw [e] at hd
    · simp at hd; omega
    · exact .inr (digs_all _ _ d hd)
    · rcases List.mem_cons.1 hd with rfl | hd
      · exact .inl rfl
      · exact .inr (digs_all _ _ d hd)
  refine ⟨h4, fun x hx => ?_, fun x hx => ?_⟩
  · have := key x hx
    unfold blankZ
    simp
    omega
  · have := key x (List.mem_of_mem_head? hx)
    omega
theorem in7_big5 {z : Int} (h : In7 z) : -BIG < z ∧ z < BIG := by
  have := big7
  unfold In7 at h
  omega
/-- an input's words, with what lies behind each -/
def pairW5 (q : Int × Int) : List (List Int × List Int) := [(textZ q.1, [32]), (textZ q.2, [10])]
def lay5 (p l i : List (Int × Int)) : List (List Int × List Int) := (wPoly5, [32]) :: ([(textZ p.length, [32]), (textZ l.length, [32]), (textZ i.length, [10])] ++ (p.flatMap pairW5 ++ (l.flatMap pairW5 ++ i.flatMap pairW5)))
theorem lines_lay5 (l : List (Int × Int)) : linesZ l = layG (l.flatMap pairW5) := by
  induction l with
  | nil => rfl
  | cons q l ih =>
    unfold linesZ at ih ⊢
    rw [List.flatMap_cons, List.flatMap_cons, layG_app, ih]
    congr 1
theorem text_lay5 (p l i : List (Int × Int)) : textI5 p l i = layG (lay5 p l i) := by
  unfold textI5 lay5 headZ
  rw [lines_lay5, lines_lay5, lines_lay5]
  simp [layG, layG_app, lineZ, joinL]
theorem pair_fst5 (l : List (Int × Int)) : (l.flatMap pairW5).map (·.1) = (flat5 l).map textZ := by
  induction l with
  | nil => rfl
  | cons q l ih =>
    unfold flat5 at ih ⊢
    rw [List.flatMap_cons, List.flatMap_cons, List.map_append, List.map_append, ih]
    rfl
theorem lay_fst5 (p l i : List (Int × Int)) : (lay5 p l i).map (·.1) = wPoly5 :: (numsI5 p l i).map textZ := by
  unfold lay5 numsI5
  rw [List.map_cons, List.map_append, List.map_append, List.map_append, pair_fst5, pair_fst5, pair_fst5, List.map_append, List.map_append, List.map_append]
  rfl
theorem lay_len5 (p l i : List (Int × Int)) : (lay5 p l i).length = (numsI5 p l i).length + 1 := by
  have := congrArg List.length (lay_fst5 p l i)
  simpa using this
theorem nums_small5 {p l i : List (Int × Int)} (h : Fit5 p l i) : ∀ z ∈ numsI5 p l i, In7 z := by
  have f : ∀ l : List (Int × Int), (∀ q ∈ l, In7 q.1 ∧ In7 q.2) → ∀ z ∈ flat5 l, In7 z := fun l h => flat_mem5.2 h
  have a := h.lp
  have b := h.ll
  have c := h.li
  intro z hz
  unfold numsI5 at hz
  simp only [List.mem_append, List.mem_cons, List.not_mem_nil, or_false] at hz
  rcases hz with (rfl | rfl | rfl) | hz | hz | hz
  · unfold In7; omega
  · unfold In7; omega
  · unfold In7; omega
  · exact f p h.ip z hz
  · exact f l h.il z hz
  · exact f i h.ii z hz
theorem wPoly_ok5 : WordOk wPoly5 := ⟨by decide, by decide, by decide⟩
theorem gap_32 : GapOk [32] := gap_blank 32 (by decide)
theorem gap_10 : GapOk [10] := gap_blank 10 (by decide)
theorem lay_words5 {p l i : List (Int × Int)} (h : Fit5 p l i) : ∀ x ∈ lay5 p l i, WordOk x.1 := by
  intro x hx
  have hm : x.1 ∈ (lay5 p l i).map (·.1) := List.mem_map_of_mem hx
  rw [lay_fst5, List.mem_cons, List.mem_map] at hm
  rcases hm with e | ⟨z, hz, e⟩
  · rw [e]; exact wPoly_ok5
  · rw [← e]
    have := in7_big5 (nums_small5 h z hz)
    exact word_text5 this.1 this.2
theorem lay_gaps5 (p l i : List (Int × Int)) : ∀ x ∈ lay5 p l i, x.2 = [32] ∨ x.2 = [10] := by
  have f : ∀ l : List (Int × Int), ∀ x ∈ l.flatMap pairW5, x.2 = [32] ∨ x.2 = [10] := by
    intro l x hx
    rw [List.mem_flatMap] at hx
    obtain ⟨q, -, hx⟩ := hx
    simp only [pairW5, List.mem_cons, List.not_mem_nil, or_false] at hx
    rcases hx with rfl | rfl
    · exact .inl rfl
    · exact .inr rfl
  intro x hx
  simp only [lay5, List.mem_cons, List.mem_append, List.not_mem_nil, or_false] at hx
  rcases hx with rfl | (rfl | rfl | rfl) | hx | hx | hx
  · exact .inl rfl
  · exact .inl rfl
  · exact .inl rfl
  · exact .inr rfl
  · exact f p x hx
  · exact f l x hx
  · exact f i x hx
theorem lay_ok5 {p l i : List (Int × Int)} (h : Fit5 p l i) : ∀ x ∈ lay5 p l i, WordOk x.1 ∧ GapOk x.2 := by
  intro x hx
  refine ⟨lay_words5 h x hx, ?_⟩
  rcases lay_gaps5 p l i x hx with e | e <;> rw [e]
  · exact gap_32
  · exact gap_10
/-- words with those texts, whatever lies between them, are read as the input -/
theorem doc_read5 {p l i : List (Int × Int)} (hok : okI5 p l i = true) (en : Int) (us : List (Int × List Int)) (hu : us.map (·.2) = wPoly5 :: (numsI5 p l i).map textZ) : doc5 en us = (numsI5 p l i, 0, 0) := by
  cases us with
  | nil => cases hu
  | cons x us =>
    rw [List.map_cons, List.cons.injEq] at hu
    obtain ⟨h1, h2⟩ := hu
    have hl : us.length = (numsI5 p l i).length := by simpa using congrArg List.length h2
    show (if x.2 = wPoly5 then _ else _) = _
    rw [if_pos h1]
    have := go_read5 (en := en) us (numsI5 p l i) [] [] hl (fun j h h2' => by
      have e := congrArg (·[j]?) h2
      simp only [List.getElem?_map, List.getElem?_eq_getElem h, List.getElem?_eq_getElem h2', Option.map_some, Option.some.injEq] at e
      rw [e]
      have b := in7_big5 (nums_small5 (fit_of5 hok) _ (List.getElem_mem h2'))
      exact says_text5 b.1 b.2) ((lim_ok5 p l i).2 hok)
    rw [List.append_nil, List.nil_append] at this
    rw [this, go_end5 (numsI_len5 p l i)]
theorem flat_inj5 : ∀ (a b : List (Int × Int)), flat5 a = flat5 b → a = b
  | [], [], _ => rfl
  | [], q :: b, h => by simp [flat5] at h
  | q :: a, [], h => by simp [flat5] at h
  | q :: a, r :: b, h => by
    simp only [flat5, List.flatMap_cons, List.cons_append, List.nil_append, List.cons.injEq] at h
    rw [flat_inj5 a b h.2.2]
    congr 1
    exact Prod.ext h.1 h.2.1
theorem numsI_inj5 {p l i p' l' i' : List (Int × Int)} (h : numsI5 p l i = numsI5 p' l' i') : p = p' ∧ l = l' ∧ i = i' := by
  unfold numsI5 at h
  simp only [List.cons_append, List.nil_append, List.cons.injEq, Int.natCast_inj] at h
  obtain ⟨h1, h2, h3, h4⟩ := h
  obtain ⟨a, b⟩ := List.append_inj h4 (by rw [flat_len5, flat_len5, h1])
  obtain ⟨c, d⟩ := List.append_inj b (by rw [flat_len5, flat_len5, h2])
  exact ⟨flat_inj5 _ _ a, flat_inj5 _ _ c, flat_inj5 _ _ d⟩
theorem q5_eta {Q : Q5} {p l i : List (Int × Int)} (h : numsI5 p l i = numsI5 Q.p Q.l Q.i) : Q = ⟨p, l, i⟩ := by
  obtain ⟨a, b, c⟩ := numsI_inj5 h
  rw [a, b, c]
/-- what is read from a text whose words are an input's -/
theorem prog_read5 {p l i : List (Int × Int)} (hok : okI5 p l i = true) (s : ByteArray) (hu : (wordsZ (nums s)).map (·.2) = wPoly5 :: (numsI5 p l i).map textZ) : prog5 s = (⟨p, l, i⟩, 0, 0) := by
  obtain ⟨h1, h2, -⟩ := prog_go5 s
  rw [doc_read5 hok _ _ hu] at h1 h2
  have e0 : (prog5 s).2.2 = 0 := by rw [← h1]
  have h3 := h2 e0
  refine Prod.ext ?_ h1.symm
  exact q5_eta h3
theorem words_text5 {p l i : List (Int × Int)} (hok : okI5 p l i = true) : wordsZ (textI5 p l i) = layW 0 (lay5 p l i) := by
  have := words_lay (pre := []) thru_nil (lay_ok5 (fit_of5 hok))
  rw [List.nil_append] at this
  rw [text_lay5]
  exact this
/-- InputBack: what is printed is read as it was -/
theorem prog_back5 {p l i : List (Int × Int)} (hok : okI5 p l i = true) (s : ByteArray) (hs : nums s = textI5 p l i) : prog5 s = (⟨p, l, i⟩, 0, 0) := by
  refine prog_read5 hok s ?_
  rw [hs, words_text5 hok, layW_snd, lay_fst5]
/-- and what is read may be -/
theorem prog_ok5 (s : ByteArray) (h : (prog5 s).2.2 = 0) : okI5 (prog5 s).1.p (prog5 s).1.l (prog5 s).1.i = true ∧ (prog5 s).2.1 = 0 := by
  obtain ⟨h1, h2, -⟩ := prog_go5 s
  have h3 := h2 h
  have e0 : (doc5 s.size (wordsZ (nums s))).2.2 = 0 := by rw [h1]; exact h
  refine ⟨?_, ?_⟩
  · rw [← lim_ok5, ← h3]
    cases hw : wordsZ (nums s) with
    | nil => rw [hw] at e0; exact absurd e0 (show (11 : Int) ≠ 0 by decide)
    | cons x r =>
      rw [hw, doc_cons5] at e0
      rw [doc_cons5]
      split at e0
      · rename_i hx
        rw [if_pos hx]
        obtain ⟨zs, k1, k2⟩ := go_lims5 r [] e0
        rw [k1]
        exact k2
      · exact absurd e0 (show (11 : Int) ≠ 0 by decide)
  · unfold prog5 at h ⊢
    split at h
    · rename_i hx
      exact absurd h hx
    · rename_i hx
      rw [if_neg hx]
theorem words_le5 (s : ByteArray) {i : Nat} (h : i < (wordsOf s).length) : (wordsOf s)[i].1 ≤ s.size := by
  obtain ⟨a, b, e, h1, -, -⟩ := words_at s h
  rw [e, ← nums_length]
  exact Nat.le_trans (Nat.le_of_lt h1.lt) h1.le
/-- where an error is: inside the bytes -/
theorem prog_at5 (s : ByteArray) (h : (prog5 s).2.2 ≠ 0) : 0 ≤ (prog5 s).2.1 ∧ (prog5 s).2.1 ≤ s.size := by
  obtain ⟨h1, -, -⟩ := prog_go5 s
  have e0 : (doc5 s.size (wordsZ (nums s))).2.2 ≠ 0 := by rw [h1]; exact h
  have key : (prog5 s).2.1 = s.size ∨ ∃ x ∈ wordsZ (nums s), (prog5 s).2.1 = x.1 := by
    rw [← h1]
    cases hw : wordsZ (nums s) with
    | nil => exact .inl rfl
    | cons x r =>
      rw [hw, doc_cons5] at e0
      rw [doc_cons5]
      split at e0
      · rename_i hx
        rw [if_pos hx]
        rcases go_at5 r [] e0 with h | ⟨y, hy, h⟩
        · exact .inl h
        · exact .inr ⟨y, by simp [hy], h⟩
      · rename_i hx
        rw [if_neg hx]
        exact .inr ⟨x, by simp, rfl⟩
  rcases key with h | ⟨x, hx, h⟩
  · omega
  · rw [← tz_words6] at hx
    unfold tz6 at hx
    rw [List.mem_map] at hx
    obtain ⟨y, hy, rfl⟩ := hx
    obtain ⟨j, hj, rfl⟩ := List.getElem_of_mem hy
    have := words_le5 s hj
    dsimp only at h
    omega
end Go.Proofs.YtdpbmkfgolemjaaDoor

/-
  The inputs' laws: what they call, in the forms that they want.
-/
namespace Go.Proofs.YtdpbmkfgolemjaaDoor
open Go.RowKit

/-- a text as bytes, in new memory -/
theorem bytes_of5 (s : ByteArray) (W : World) : ∃ w3 cp, (convert 9 37 (.string s)).run Tryd.prog W = .ok (.slice (some ⟨W.heap.size, 0, none⟩) s.size cp) w3 ∧ Below W.heap.size W w3 ∧ BytesIn w3 (some ⟨W.heap.size, 0, none⟩) s :=
  ⟨_, _, Lib.run_convert_string_bytes (P := Tryd.prog) W 9 37 5 s (u := .string) Tryd.underlying9 Tryd.underlying37 Tryd.underlying5, bytesWorld_bl W 5 s, bytesWorld_in W 5 s⟩
theorem print_ok5 {p l i : List (Int × Int)} {ap al ai : Option Addr} {cp cl ci : Nat} {w : World} (hA : Pol5 w ap al ai cp cl ci p l i) (hT : Tab5 w) (hok : okI5 p l i = true) :
    Calls Tryd.prog 14 #[.agg #[.slice ap p.length cp, .slice al l.length cl, .slice ai i.length ci]] w fun e W => ∃ s, e = .returned (.tuple #[.string s, .int .i64 0]) ∧ nums s = textI5 p l i ∧ Below w.heap.size w W := by
  refine (print_l5 p l i ap al ai cp cl ci w hA hT).mono ?_
  rintro e W ⟨h | h, hb⟩
  · rw [hok] at h; cases h.1
  · obtain ⟨-, s, h1, h2⟩ := h
    exact ⟨s, h1, h2, hb⟩
theorem print_no5 {p l i : List (Int × Int)} {ap al ai : Option Addr} {cp cl ci : Nat} {w : World} (hA : Pol5 w ap al ai cp cl ci p l i) (hT : Tab5 w) (hok : okI5 p l i = false) :
    Calls Tryd.prog 14 #[.agg #[.slice ap p.length cp, .slice al l.length cl, .slice ai i.length ci]] w fun e W => e = .returned (.tuple #[.string ⟨#[]⟩, .int .i64 2]) ∧ Below w.heap.size w W := by
  refine (print_l5 p l i ap al ai cp cl ci w hA hT).mono ?_
  rintro e W ⟨h | h, hb⟩
  · exact ⟨h.2, hb⟩
  · rw [hok] at h; cases h.1
/-- what reading comes to, in memory -/
def ParseP5 (Q : Q5) (at' e : Int) (w : World) (x : Ending) (W : World) : Prop :=
  ∃ ap cp al cl ai ci, x = .returned (.tuple #[.agg #[.slice ap Q.p.length cp, .slice al Q.l.length cl, .slice ai Q.i.length ci], .int .i64 at', .int .i64 e]) ∧ Pol5 W ap al ai cp cl ci Q.p Q.l Q.i ∧ Below w.heap.size w W
theorem parse_w5 (s : ByteArray) (hs : s.size ≤ 1000000) (htl : (wordsZ (nums s)).length ≤ 20000) (hw : ∀ x ∈ wordsZ (nums s), x.2.length ≤ 10000) (ad : Option Addr) (cap : Nat) (w : World) (hB : BytesIn w ad s) {Q : Q5} {at' e : Int} (hp : prog5 s = (Q, at', e)) (hl : Q.p.length ≤ 10000 ∧ Q.l.length ≤ 10000 ∧ Q.i.length ≤ 10000) :
    Calls Tryd.prog 18 #[.slice ad s.size cap] w (ParseP5 Q at' e w) := by
  rw [← tz_words6] at htl hw
  have e1 : (wordsOf s).length = (tz6 (wordsOf s)).length := by unfold tz6; rw [List.length_map]
  refine (parse5_l s hs (by rw [e1]; exact htl) (fun x hx => ?_) ad cap w hB).mono ?_
  · have := hw ((x.1 : Int), nums x.2) (by unfold tz6; exact List.mem_map.2 ⟨x, hx, rfl⟩)
    rw [← nums_length]
    exact this
  · rw [hp]
    rintro x W ⟨vp, vl, vi, rfl, h1, h2, h3, hb⟩
    obtain ⟨ap, cp, rfl, a1, a2, a3, -⟩ := own_row5 h1
    obtain ⟨al, cl, rfl, b1, b2, b3, -⟩ := own_row5 h2
    obtain ⟨ai, ci, rfl, c1, c2, c3, -⟩ := own_row5 h3
    exact ⟨ap, cp, al, cl, ai, ci, rfl, ⟨a2, b2, c2, a1, b1, c1, a3, b3, c3, hl.1, hl.2.1, hl.2.2⟩, hb⟩
/-- bytes that come in -/
theorem prog_len5 (s : ByteArray) : (prog5 s).1.p.length ≤ 10000 ∧ (prog5 s).1.l.length ≤ 10000 ∧ (prog5 s).1.i.length ≤ 10000 := by
  by_cases h : (prog5 s).2.2 = 0
  · have := fit_of5 (prog_ok5 s h).1
    have a := this.lp
    have b := this.ll
    have c := this.li
    omega
  · rw [((prog_go5 s).2.2 h).1]
    simp
theorem parse_b5 (s : ByteArray) (hs : s.size ≤ 10000) (ad : Option Addr) (cap : Nat) (w : World) (hB : BytesIn w ad s) {Q : Q5} {at' e : Int} (hp : prog5 s = (Q, at', e)) :
    Calls Tryd.prog 18 #[.slice ad s.size cap] w (ParseP5 Q at' e w) := by
  have h := prog_len5 s
  exact parse_c5 s hs ad cap w hB (by rw [hp]) (by rw [hp]) (by rw [hp]) (by rw [hp] at h; exact h)
/-- an input's text -/
theorem text_len5 {p l i : List (Int × Int)} (h : Fit5 p l i) : (textI5 p l i).length ≤ 20000 := by
  have a := lines_len5 p h.ip
  have b := lines_len5 l h.il
  have c := lines_len5 i h.ii
  have x := h.lp
  have y := h.ll
  have z := h.li
  have d := three_len5 p.length l.length i.length ⟨by omega, by omega⟩ ⟨by omega, by omega⟩ ⟨by omega, by omega⟩
  have e : wPoly5.length = 4 := rfl
  unfold textI5 headZ
  simp only [List.length_append, List.length_cons]
  omega
theorem lay_small5 {p l i : List (Int × Int)} (h : Fit5 p l i) : ∀ x ∈ lay5 p l i, x.1.length ≤ 8 := by
  intro x hx
  have hm : x.1 ∈ (lay5 p l i).map (·.1) := List.mem_map_of_mem hx
  rw [lay_fst5, List.mem_cons, List.mem_map] at hm
  rcases hm with e | ⟨z, hz, e⟩
  · rw [e]; decide
  · rw [← e]
    have := nums_small5 h z hz
    exact textZ_len5 z this.1 this.2
theorem lay_count5 {p l i : List (Int × Int)} (h : Fit5 p l i) : (lay5 p l i).length ≤ 2004 := by
  rw [lay_len5]
  have x := h.lp
  have y := h.ll
  have z := h.li
  unfold numsI5
  simp [flat_len5]
  omega
theorem layW_mem5 {ts : List (List Int × List Int)} {n : Nat} (h : ∀ x ∈ ts, x.1.length ≤ 10000) : ∀ x ∈ layW n ts, x.2.length ≤ 10000 := by
  intro x hx
  have : x.2 ∈ (layW n ts).map (·.2) := List.mem_map_of_mem hx
  rw [layW_snd, List.mem_map] at this
  obtain ⟨y, hy, e⟩ := this
  rw [← e]
  exact h y hy
/-- the text of an input is read as it -/
theorem parse_t5 {p l i : List (Int × Int)} (hok : okI5 p l i = true) (s : ByteArray) (hs : nums s = textI5 p l i) (ad : Option Addr) (cap : Nat) (w : World) (hB : BytesIn w ad s) :
    Calls Tryd.prog 18 #[.slice ad s.size cap] w (ParseP5 ⟨p, l, i⟩ 0 0 w) := by
  have hf := fit_of5 hok
  have h1 := text_len5 hf
  have h2 := lay_count5 hf
  have a := hf.lp
  have b := hf.ll
  have c := hf.li
  refine parse_w5 s (by rw [← nums_length, hs]; omega) (by rw [hs, words_text5 hok, layW_len]; omega) ?_ ad cap w hB (prog_back5 hok s hs) ⟨by dsimp only; omega, by dsimp only; omega, by dsimp only; omega⟩
  rw [hs, words_text5 hok]
  exact layW_mem5 (fun x hx => by have := lay_small5 hf x hx; omega)
end Go.Proofs.YtdpbmkfgolemjaaDoor

/-
  An input's text, cut, or with another word in one's place: plain facts.
-/
namespace Go.Proofs.YtdpbmkfgolemjaaDoor
open Go.RowKit

theorem lim_take5 {p l i : List (Int × Int)} (hok : okI5 p l i = true) (j : Nat) : Lim5 [] ((numsI5 p l i).take j) := by
  have h := (lim_ok5 p l i).2 hok
  rw [← List.take_append_drop j (numsI5 p l i), lim_app_iff5] at h
  exact h.1
theorem lim_ne5 {p l i : List (Int × Int)} (hok : okI5 p l i = true) {j : Nat} (hj : j < (numsI5 p l i).length) : ((((numsI5 p l i).take j).length : Nat) : Int) ≠ all5 ((numsI5 p l i).take j) := by
  have h := (lim_ok5 p l i).2 hok
  rw [← List.take_append_drop j (numsI5 p l i), lim_app_iff5, List.drop_eq_getElem_cons hj, List.nil_append] at h
  exact h.2.1.1
/-- the words as far as they go -/
theorem doc_pre5 {p l i : List (Int × Int)} (hok : okI5 p l i = true) (en : Int) {j : Nat} (hj : j ≤ (numsI5 p l i).length) (us r : List (Int × List Int)) (hu : us.map (·.2) = wPoly5 :: ((numsI5 p l i).take j).map textZ) : doc5 en (us ++ r) = go5 en ((numsI5 p l i).take j) r := by
  cases us with
  | nil => cases hu
  | cons x us =>
    rw [List.map_cons, List.cons.injEq] at hu
    obtain ⟨h1, h2⟩ := hu
    have hl : us.length = ((numsI5 p l i).take j).length := by simpa using congrArg List.length h2
    rw [List.cons_append, doc_cons5, if_pos h1]
    exact go_read5 (en := en) us ((numsI5 p l i).take j) [] r hl (fun m h h2' => by
      have e := congrArg (·[m]?) h2
      simp only [List.getElem?_map, List.getElem?_eq_getElem h, List.getElem?_eq_getElem h2', Option.map_some, Option.some.injEq] at e
      rw [e]
      have b := in7_big5 (nums_small5 (fit_of5 hok) _ (List.mem_of_mem_take (List.getElem_mem h2')))
      exact says_text5 b.1 b.2) (lim_take5 hok j)
theorem layW_get5 : ∀ (ts : List (List Int × List Int)) (n k : Nat) (h : k < ts.length), (layW n ts)[k]? = some (((n + (layG (ts.take k)).length : Nat) : Int), ts[k].1)
  | x :: ts, n, 0, _ => by simp [layW, layG]
  | x :: ts, n, k + 1, h => by
    simp only [layW, List.getElem?_cons_succ, List.take_succ_cons, layG, List.length_append, List.getElem_cons_succ]
    rw [layW_get5 ts _ k (by simpa using h)]
    congr 3
    omega
theorem take_fst5 (p l i : List (Int × Int)) (j : Nat) : ((lay5 p l i).take (j + 1)).map (·.1) = wPoly5 :: ((numsI5 p l i).take j).map textZ := by
  rw [List.map_take, lay_fst5, List.take_succ_cons, List.map_take]
/-- what a reading that fails comes to -/
structure Bad5 (u : ByteArray) (a er : Int) : Prop where
  prog : prog5 u = (⟨[], [], []⟩, a, er)
  size : u.size ≤ 1000000
  count : (wordsZ (nums u)).length ≤ 20000
  small : ∀ x ∈ wordsZ (nums u), x.2.length ≤ 10000
theorem prog_bad5 {u : ByteArray} {a er : Int} (h : doc5 u.size (wordsZ (nums u)) = ([], a, er)) (he : er ≠ 0) : prog5 u = (⟨[], [], []⟩, a, er) := by
  obtain ⟨h1, -, h3⟩ := prog_go5 u
  rw [h] at h1
  have e0 : (prog5 u).2.2 ≠ 0 := by rw [← h1]; exact he
  exact Prod.ext (h3 e0).1 h1.symm
/-- where a word lies -/
theorem word_at5 {p l i : List (Int × Int)} (hok : okI5 p l i = true) {s : ByteArray} (hs : nums s = textI5 p l i) {k a : Nat} {t : ByteArray} (hk : k < (wordsOf s).length) (hw : (wordsOf s)[k] = (a, t)) :
    ∃ h : k < (lay5 p l i).length, a = (layG ((lay5 p l i).take k)).length ∧ nums t = (lay5 p l i)[k].1 := by
  have e : tz6 (wordsOf s) = layW 0 (lay5 p l i) := by rw [tz_words6, hs, words_text5 hok]
  have hl : (wordsOf s).length = (lay5 p l i).length := by
    have := congrArg List.length e
    rw [layW_len] at this
    unfold tz6 at this
    rw [List.length_map] at this
    exact this
  refine ⟨by omega, ?_⟩
  have e2 := congrArg (·[k]?) e
  rw [layW_get5 _ 0 k (by omega)] at e2
  unfold tz6 at e2
  rw [List.getElem?_map, List.getElem?_eq_getElem hk, hw, Option.map_some, Option.some.injEq, Prod.mk.injEq] at e2
  refine ⟨?_, e2.2⟩
  have := e2.1
  omega
theorem words_len5 {p l i : List (Int × Int)} (hok : okI5 p l i = true) {s : ByteArray} (hs : nums s = textI5 p l i) : (wordsOf s).length = (numsI5 p l i).length + 1 := by
  have e : tz6 (wordsOf s) = layW 0 (lay5 p l i) := by rw [tz_words6, hs, words_text5 hok]
  have := congrArg List.length e
  rw [layW_len, lay_len5] at this
  unfold tz6 at this
  rw [List.length_map] at this
  exact this
theorem layG_cut5 (ts : List (List Int × List Int)) {k : Nat} (h : k < ts.length) : layG ts = layG (ts.take k) ++ (ts[k].1 ++ (ts[k].2 ++ layG (ts.drop (k + 1)))) := by
  conv => lhs; rw [← List.take_append_drop k ts, layG_app, List.drop_eq_getElem_cons h]
  rfl
/-- cut ahead of a word -/
theorem cutA5 {p l i : List (Int × Int)} (hok : okI5 p l i = true) {s : ByteArray} (hs : nums s = textI5 p l i) {k a : Nat} {t u : ByteArray} (hk : k < (wordsOf s).length) (hw : (wordsOf s)[k] = (a, t)) (hu : nums u = (nums s).take a) : Bad5 u a 11 := by
  obtain ⟨hk2, ha, -⟩ := word_at5 hok hs hk hw
  have hf := fit_of5 hok
  have ht : (textI5 p l i).take a = layG ((lay5 p l i).take k) := by rw [text_lay5, layG_cut5 _ hk2, ha, List.take_left]
  have hok2 : ∀ x ∈ (lay5 p l i).take k, WordOk x.1 ∧ GapOk x.2 := fun x hx => lay_ok5 hf x (List.mem_of_mem_take hx)
  have hW : wordsZ (nums u) = layW 0 ((lay5 p l i).take k) := by
    have := words_lay (pre := []) thru_nil hok2
    rw [List.nil_append] at this
    rw [hu, hs, ht]
    exact this
  have hsz : u.size = a := by rw [← nums_length, hu, hs, ht, ha]
  have h1 := text_len5 hf
  have h2 := lay_count5 hf
  have hal : a ≤ 20000 := by
    have := congrArg List.length ht
    rw [List.length_take] at this
    rw [ha] at this ⊢
    omega
  refine ⟨prog_bad5 ?_ (by decide), by omega, by rw [hW, layW_len, List.length_take]; omega, ?_⟩
  · rw [hW, hsz]
    cases k with
    | zero =>
      have : a = 0 := by rw [ha]; rfl
      subst this
      rfl
    | succ j =>
      rw [lay_len5] at hk2
      have := doc_pre5 hok a (j := j) (by omega) (layW 0 ((lay5 p l i).take (j + 1))) [] (by rw [layW_snd, take_fst5])
      rw [List.append_nil] at this
      rw [this, go_nil5 (lim_ne5 hok (by omega))]
  · rw [hW]
    exact layW_mem5 (fun x hx => by have := lay_small5 hf x (List.mem_of_mem_take hx); omega)
theorem gap_app5 {g h : List Int} (hg : GapOk g) (hh : Thru h) : GapOk (g ++ h) := by
  obtain ⟨b, r, e, hb⟩ := hg.hd
  refine ⟨⟨b, r ++ h, by rw [e]; rfl, hb⟩, fun t k => ?_⟩
  rw [List.append_assoc, hg.thru, hh, List.length_append, Nat.add_assoc]
theorem lay_snoc5 (p l i : List (Int × Int)) : ∃ (ts : List (List Int × List Int)) (x : List Int × List Int), lay5 p l i = ts ++ [x] := by
  have h : lay5 p l i ≠ [] := by unfold lay5; simp
  exact ⟨(lay5 p l i).dropLast, (lay5 p l i).getLast h, (List.dropLast_concat_getLast h).symm⟩
/-- with a word more -/
theorem cutB5 {p l i : List (Int × Int)} (hok : okI5 p l i = true) {s : ByteArray} (hs : nums s = textI5 p l i) {u : ByteArray} {bad : List Int} (hb : WordOk bad) (hbl : bad.length ≤ 100) (hu : nums u = nums s ++ (32 :: bad)) : Bad5 u ((s.size + 1 : Nat) : Int) 11 := by
  have hf := fit_of5 hok
  obtain ⟨ts, x, hts⟩ := lay_snoc5 p l i
  have hall := lay_ok5 hf
  rw [hts] at hall
  have hx := hall x (by simp)
  have hok2 : ∀ y ∈ ts ++ [(x.1, x.2 ++ [32])], WordOk y.1 ∧ GapOk y.2 := by
    intro y hy
    rw [List.mem_append, List.mem_singleton] at hy
    rcases hy with hy | rfl
    · exact hall y (by simp [hy])
    · exact ⟨hx.1, gap_app5 hx.2 gap_32.thru⟩
  have hL : layG (ts ++ [(x.1, x.2 ++ [32])]) = textI5 p l i ++ [32] := by
    rw [text_lay5, hts, layG_app, layG_app]
    simp [layG]
  have hsz : s.size = (textI5 p l i).length := by rw [← nums_length, hs]
  have hW : wordsZ (nums u) = layW 0 (ts ++ [(x.1, x.2 ++ [32])]) ++ [(((s.size + 1 : Nat) : Int), bad)] := by
    have := words_lay1 (pre := []) thru_nil hok2 hb
    rw [List.nil_append, hL] at this
    rw [hu, hs]
    rw [show textI5 p l i ++ 32 :: bad = textI5 p l i ++ [32] ++ bad by simp, this]
    congr 3
    rw [hsz]
    simp
  have hm : (layW 0 (ts ++ [(x.1, x.2 ++ [32])])).map (·.2) = (lay5 p l i).map (·.1) := by
    rw [layW_snd, hts]
    simp
  have hl : (layW 0 (ts ++ [(x.1, x.2 ++ [32])])).length = (lay5 p l i).length := by
    have := congrArg List.length hm
    simpa using this
  have h1 := text_len5 hf
  have h2 := lay_count5 hf
  refine ⟨prog_bad5 ?_ (by decide), ?_, by rw [hW, List.length_append, hl]; simp; omega, ?_⟩
  · rw [hW]
    have := doc_pre5 hok u.size (j := (numsI5 p l i).length) (Nat.le_refl _) (layW 0 (ts ++ [(x.1, x.2 ++ [32])])) [(((s.size + 1 : Nat) : Int), bad)] (by rw [hm, lay_fst5, List.take_length])
    rw [this, List.take_length, go_over5 (numsI_len5 p l i)]
  · rw [← nums_length, hu, List.length_append, hs, List.length_cons]
    omega
  · rw [hW]
    intro y hy
    rw [List.mem_append, List.mem_singleton] at hy
    rcases hy with hy | rfl
    · have : y.2 ∈ (layW 0 (ts ++ [(x.1, x.2 ++ [32])])).map (·.2) := List.mem_map_of_mem hy
      rw [hm, List.mem_map] at this
      obtain ⟨z, hz, e⟩ := this
      rw [← e]
      have := lay_small5 hf z hz
      omega
    · dsimp only
      omega
/-- with another word in one's place: what lies ahead is read -/
theorem lay_put5 {p l i : List (Int × Int)} (hok : okI5 p l i = true) {s : ByteArray} (hs : nums s = textI5 p l i) {k a : Nat} {t u : ByteArray} (hk : k < (wordsOf s).length) (hw : (wordsOf s)[k] = (a, t)) {w : List Int} (hwo : WordOk w) (hwl : w.length ≤ 100) (hu : nums u = (nums s).take a ++ (w ++ (nums s).drop (a + t.size))) :
    ∃ r : List (Int × List Int), wordsZ (nums u) = layW 0 ((lay5 p l i).take k) ++ ((a : Int), w) :: r ∧ k < (lay5 p l i).length ∧ (u.size ≤ 1000000 ∧ (wordsZ (nums u)).length ≤ 20000 ∧ ∀ x ∈ wordsZ (nums u), x.2.length ≤ 10000) := by
  obtain ⟨hk2, ha, ht⟩ := word_at5 hok hs hk hw
  have hf := fit_of5 hok
  obtain ⟨g, hg⟩ : ∃ g, (lay5 p l i)[k].2 = g := ⟨_, rfl⟩
  have h1 : (textI5 p l i).take a = layG ((lay5 p l i).take k) := by rw [text_lay5, layG_cut5 _ hk2, ha, List.take_left]
  have h2 : (textI5 p l i).drop (a + t.size) = g ++ layG ((lay5 p l i).drop (k + 1)) := by
    rw [text_lay5, layG_cut5 _ hk2, ← nums_length t, ht, ha, ← List.drop_drop, List.drop_left, List.drop_left, hg]
  have hL : nums u = layG ((lay5 p l i).take k ++ (w, g) :: (lay5 p l i).drop (k + 1)) := by
    rw [hu, hs, h1, h2, layG_app]
    rfl
  have hok2 : ∀ y ∈ (lay5 p l i).take k ++ (w, g) :: (lay5 p l i).drop (k + 1), WordOk y.1 ∧ GapOk y.2 := by
    intro y hy
    rw [List.mem_append, List.mem_cons] at hy
    rcases hy with hy | rfl | hy
    · exact lay_ok5 hf y (List.mem_of_mem_take hy)
    · exact ⟨hwo, hg ▸ (lay_ok5 hf _ (List.getElem_mem hk2)).2⟩
    · exact lay_ok5 hf y (List.mem_of_mem_drop hy)
  have hW : wordsZ (nums u) = layW 0 ((lay5 p l i).take k) ++ ((a : Int), w) :: layW (a + w.length + g.length) ((lay5 p l i).drop (k + 1)) := by
    have := words_lay (pre := []) thru_nil hok2
    rw [List.nil_append] at this
    rw [hL, this, List.length_nil, layW_app, Nat.zero_add, ← ha]
    rfl
  refine ⟨_, hW, hk2, ?_, ?_, ?_⟩
  · have h3 := text_len5 hf
    rw [← nums_length, hu, hs]
    simp only [List.length_append, List.length_take, List.length_drop]
    omega
  · have h4 := lay_count5 hf
    rw [hW]
    simp only [List.length_append, List.length_cons, layW_len, List.length_take, List.length_drop]
    omega
  · rw [hW]
    intro y hy
    rw [List.mem_append, List.mem_cons] at hy
    rcases hy with hy | rfl | hy
    · exact layW_mem5 (fun x hx => by have := lay_small5 hf x (List.mem_of_mem_take hx); omega) y hy
    · dsimp only; omega
    · exact layW_mem5 (fun x hx => by have := lay_small5 hf x (List.mem_of_mem_drop hx); omega) y hy
/-- a word that is no number -/
theorem cutC5 {p l i : List (Int × Int)} (hok : okI5 p l i = true) {s : ByteArray} (hs : nums s = textI5 p l i) {k a : Nat} {t u : ByteArray} (hk : k < (wordsOf s).length) (hw : (wordsOf s)[k] = (a, t)) {w : List Int} (hwo : WordOk w) (hwl : w.length ≤ 100) (hb : validB6 w = false) (hp : w ≠ wPoly5) (hu : nums u = (nums s).take a ++ (w ++ (nums s).drop (a + t.size))) : Bad5 u a 11 := by
  obtain ⟨r, h1, h2, h3, h4, h5⟩ := lay_put5 hok hs hk hw hwo hwl hu
  obtain ⟨-, ha, -⟩ := word_at5 hok hs hk hw
  refine ⟨prog_bad5 ?_ (by decide), h3, h4, h5⟩
  rw [h1]
  cases k with
  | zero =>
    rw [List.take_zero, layW, List.nil_append, doc_cons5, if_neg hp]
  | succ j =>
    rw [lay_len5] at h2
    rw [doc_pre5 hok u.size (j := j) (by omega) (layW 0 ((lay5 p l i).take (j + 1))) _ (by rw [layW_snd, take_fst5]), go_bad5 (lim_ne5 hok (by omega)) hb]
/-- a number beyond its limits -/
theorem cutD5 {p l i : List (Int × Int)} (hok : okI5 p l i = true) {s : ByteArray} (hs : nums s = textI5 p l i) {j a : Nat} {t u : ByteArray} (hk : j + 1 < (wordsOf s).length) (hw : (wordsOf s)[j + 1] = (a, t)) {w : List Int} {z : Int} (hwo : WordOk w) (hwl : w.length ≤ 100) (hz : Says5 w z) (ho : z < (lim5 ((numsI5 p l i).take j)).1 ∨ (lim5 ((numsI5 p l i).take j)).2 < z) (hu : nums u = (nums s).take a ++ (w ++ (nums s).drop (a + t.size))) : Bad5 u a 10 := by
  obtain ⟨r, h1, h2, h3, h4, h5⟩ := lay_put5 hok hs hk hw hwo hwl hu
  refine ⟨prog_bad5 ?_ (by decide), h3, h4, h5⟩
  rw [lay_len5] at h2
  rw [h1, doc_pre5 hok u.size (j := j) (by omega) (layW 0 ((lay5 p l i).take (j + 1))) _ (by rw [layW_snd, take_fst5]), go_out5 (lim_ne5 hok (by omega)) hz ho]
theorem parse_bad5 {u : ByteArray} {a er : Int} (h : Bad5 u a er) (ad : Option Addr) (cap : Nat) (w : World) (hB : BytesIn w ad u) : Calls Tryd.prog 18 #[.slice ad u.size cap] w (ParseP5 ⟨[], [], []⟩ a er w) :=
  parse_w5 u h.size h.count h.small ad cap w hB h.prog (by simp)
/-- a text as bytes, with its room -/
theorem bytes_cap5 (s : ByteArray) (W : World) : ∃ w3 cp, s.size ≤ cp ∧ (convert 9 37 (.string s)).run Tryd.prog W = .ok (.slice (some ⟨W.heap.size, 0, none⟩) s.size cp) w3 ∧ Below W.heap.size W w3 ∧ BytesIn w3 (some ⟨W.heap.size, 0, none⟩) s :=
  ⟨_, _, grownCap_ge _ _ _ _, Lib.run_convert_string_bytes (P := Tryd.prog) W 9 37 5 s (u := .string) Tryd.underlying9 Tryd.underlying37 Tryd.underlying5, bytesWorld_bl W 5 s, bytesWorld_in W 5 s⟩
theorem wu5 {n : Nat} (h : n ≤ 100000) : IntKind.u64.wrap (n : Int) = (n : Int) := by unfold IntKind.wrap IntKind.bits IntKind.signed; simp; omega
theorem wu_nonneg5 (x : Int) : 0 ≤ IntKind.u64.wrap x := by unfold IntKind.wrap IntKind.bits IntKind.signed; simp; omega
theorem take_nums5 (t : ByteArray) (k : Nat) (h : k ≤ t.size) : nums (t.extract 0 k) = (nums t).take k := by
  unfold nums
  rw [← List.map_take]
  congr 1
  simp
theorem drop_nums5 (t : ByteArray) (k : Nat) : nums (t.extract k t.size) = (nums t).drop k := by
  unfold nums
  rw [← List.map_drop]
  congr 1
  simp
  exact List.take_of_length_le (by rw [List.length_drop, Array.length_toList]; exact Nat.le_refl _)
theorem umod5 (x : Int) (n : Nat) (h : 0 ≤ x) (h0 : 0 < n) : ∃ k : Nat, k < n ∧ x % (n : Int) = (k : Int) := by
  obtain ⟨y, rfl⟩ := Int.eq_ofNat_of_zero_le h
  exact ⟨y % n, Nat.mod_lt _ h0, rfl⟩
theorem wnat5 {k : Nat} (h : k ≤ 100000) : wrap64 (k : Int) = (k : Int) ∧ IntKind.i64.wrap (k : Int) = (k : Int) := ⟨by unfold wrap64; omega, IntWalk.i64_in _ (by omega)⟩
theorem word_end5 {p l i : List (Int × Int)} (hok : okI5 p l i = true) {s : ByteArray} (hs : nums s = textI5 p l i) {k a : Nat} {t : ByteArray} (hk : k < (wordsOf s).length) (hw : (wordsOf s)[k] = (a, t)) : a + t.size ≤ s.size := by
  obtain ⟨h1, h2, h3⟩ := word_at5 hok hs hk hw
  have e := congrArg List.length (layG_cut5 (lay5 p l i) h1)
  rw [← text_lay5, ← hs, nums_length, List.length_append, List.length_append, ← h2, ← h3, nums_length] at e
  omega
theorem urem5 (x : Int) (n : Nat) (h : 0 ≤ x) (h0 : 0 < n) : ∃ k : Nat, k < n ∧ x.tmod (n : Int) = (k : Int) := by
  obtain ⟨y, rfl⟩ := Int.eq_ofNat_of_zero_le h
  exact ⟨y % n, Nat.mod_lt _ h0, rfl⟩
def bads5 : List (List Int) := [[120], [49, 46], [45, 45, 49], [48, 49], [45, 48], [43, 50], [49, 101, 49]]
theorem bads_ok5 : ∀ w ∈ bads5, WordOk w ∧ w.length ≤ 100 ∧ validB6 w = false ∧ w ≠ wPoly5 := by
  intro w hw
  simp only [bads5, List.mem_cons, List.not_mem_nil, or_false] at hw
  rcases hw with rfl | rfl | rfl | rfl | rfl | rfl | rfl <;> exact ⟨⟨by decide, by decide, by decide⟩, by decide, by decide, by decide⟩
end Go.Proofs.YtdpbmkfgolemjaaDoor

/-
  The document's reading of an input: its limits; rows of the call's own.
-/
namespace Go.Proofs.YtdpbmkfgolemjaaDoor
open Go.RowKit

set_option maxHeartbeats 4000000 in
set_option maxRecDepth 100000 in
theorem limits_l5 (ns : List Int) (n : Nat) (hn : ns.length = n) (x : Int) (hx : ns.getD 0 0 = x) (h0 : 0 ≤ x) (h1 : x ≤ 200) (hnl : n ≤ 3000) (lo hi : Int) (hL : lim5 ns = (lo, hi)) (v : Value) (w : World) (hc : 3 ≤ n → ∃ g cap, v = .slice (some ⟨g, 0, none⟩) n cap ∧ w.cell? ⟨g, 0, none⟩ = some (.int .i64 x)) :
    Calls Tryd.prog 33 #[.int .i64 (n : Int), v] w (Gives (.tuple #[.int .i64 lo, .int .i64 hi]) w) := by
  have hL2 : (if n = 0 then ((0 : Int), (200 : Int)) else if n < 3 then (0, 400) else if (n : Int) < 3 + 2 * x then (-1048576, 1048576) else (0, x - 1)) = (lo, hi) := by rw [← hL, ← hn, ← hx]; rfl
  obtain ⟨y, hy⟩ : ∃ y, 2 * x = y := ⟨_, rfl⟩
  obtain ⟨z, hz⟩ : ∃ z, 3 + y = z := ⟨_, rfl⟩
  obtain ⟨u, hu⟩ : ∃ u, x - 1 = u := ⟨_, rfl⟩
  have hw1 : wrap64 (2 * x) = y := by unfold wrap64; omega
  have hw2 : wrap64 (3 + y) = z := by unfold wrap64; omega
  have hw3 : wrap64 (x - 1) = u := by unfold wrap64; omega
  have HC := Lib.hid hc
  rw [show 3 + 2 * x = z by omega, hu] at hL2
  clear hc hL hx hn hy hz hu
  go_enter Tryd.func33, Tryd.ntmps33
  by_cases a0 : n = 0
  · subst a0
    obtain ⟨rfl, rfl⟩ := Prod.mk.injEq .. ▸ hL2
    clear hw1 hw2 hw3
    go_wp2_with fail
    go_ret2
    exact ⟨rfl, Below.refl _ _⟩
  rw [if_neg a0] at hL2
  have b0 : ((n : Int) == 0) = false := beq_eq_false_iff_ne.2 (by omega)
  have b0' : ((n : Int) = 0) = False := eq_false (by omega)
  have b0'' : (n = 0) = False := eq_false a0
  by_cases a1 : n < 3
  · rw [if_pos a1] at hL2
    obtain ⟨rfl, rfl⟩ := Prod.mk.injEq .. ▸ hL2
    have b1 : ((n : Int) < 3) = True := eq_true (by omega)
    clear hw1 hw2 hw3 a1
    go_wp2_with fail
    go_ret2
    exact ⟨rfl, Below.refl _ _⟩
  rw [if_neg a1] at hL2
  obtain ⟨g, cap, rfl, c0⟩ := HC.out (by omega)
  have b1 : ((n : Int) < 3) = False := eq_false (by omega)
  have b2 : (0 < n) = True := eq_true (by omega)
  have b3 : ((0 : Int) < (n : Int)) = True := eq_true (by omega)
  by_cases a2 : (n : Int) < z
  · rw [if_pos a2] at hL2
    obtain ⟨rfl, rfl⟩ := Prod.mk.injEq .. ▸ hL2
    have b4 : ((n : Int) < z) = True := eq_true a2
    clear hw3 a1 a2 h0 h1 hnl a0
    go_wp2_with fail
    go_ret2
    exact ⟨rfl, Below.refl _ _⟩
  · rw [if_neg a2] at hL2
    obtain ⟨rfl, rfl⟩ := Prod.mk.injEq .. ▸ hL2
    have b4 : ((n : Int) < z) = False := eq_false a2
    clear a1 a2 h0 h1 hnl a0
    go_upto_region 7 with (fail)
    go_region
    go_wp2_with fail
    go_ret2
    exact ⟨rfl, bel_drew _⟩
/-- rows of the call's own stay -/
theorem owns_any5 {T : TypeId} {B k n : Nat} {W W' : World} {v : Value} {l : List Value} (h : W.ownsRow B T k v n l) (hb : Below W.heap.size W W') : W'.ownsRow B T k v n l := by
  refine ⟨h.1, ?_⟩
  rcases h.2 with h | ⟨g, cap, cur, rfl, hb0, hcu, rest⟩
  · exact .inl h
  · exact .inr ⟨g, cap, cur, rfl, hb0, (hb.block g (Array.getElem?_eq_some_iff.1 hcu).1).trans hcu, rest⟩
theorem owns_grown5 {B : Nat} {e : TypeId} {n k : Nat} {v : Value} {vs : List Value} {W W' : World} {X : Option Nat} (h : W.ownsRow B e n v k vs) (hg : W.grownBy W' X) (hs : ∀ g, X = some g → v.ownBlock ≠ some g) : W'.ownsRow B e n v k vs := by
  refine h.kept hg ?_
  rcases hv : v.ownBlock with _ | g
  · exact .inl rfl
  · exact .inr fun e => hs g e.symm hv
theorem grown_below5 {W W' : World} {B : Nat} {X : Option Nat} (hg : W.grownBy W' X) (hB : B ≤ W.heap.size) (hX : ∀ k, X = some k → B ≤ k) : Below B W W' := (Below.refl _ _).grown hg hB hX
theorem Var.belowB5 {W W' : World} {g B : Nat} {vs : List Value} (h : Var W g vs) (hb : Below B W W') (hg : g < B) : Var W' g vs :=
  ⟨Nat.lt_of_lt_of_le h.lt hb.size, fun i hi => (hb.cell (p := ⟨g, i, none⟩) hg).trans (h.cells i hi), fun i hi => (hb.frozen (p := ⟨g, i, none⟩) hg).trans (h.free i hi)⟩
theorem Var.grown5 {W W' : World} {g : Nat} {vs : List Value} {X : Option Nat} (h : Var W g vs) (hg : W.grownBy W' X) (hX : ∀ k, X = some k → k ≠ g) : Var W' g vs := by
  have hb := hg.block g h.lt (fun e => hX g e.symm rfl)
  exact ⟨Nat.lt_of_lt_of_le h.lt hg.size, fun i hi => (World.cell?_of_block (a := ⟨g, i, none⟩) hb).trans (h.cells i hi), fun i hi => (World.frozen?_of_block (a := ⟨g, i, none⟩) hb).trans (h.free i hi)⟩
/-- append of one number -/
theorem app_int5 {ops : Array Oper} {rest : List Oper} {o : Oper} {a : Act} {Q : Exit → Act → World → Prop} {B : Nat} {W : World} {D : List Int} {v : Value} {c : Nat} {gx : Nat} {x : Int} (hgd : o.guard = none) (s y : Operand)
    (ho : o.op = .call { callee := .builtin .append, args := #[s, y], argTypes := #[55, 55] }) (hs : a.eval s = v) (hO : W.ownsRow B 3 1 v D.length (D.map (Value.int .i64))) (hB : B ≤ W.heap.size) (hx : a.eval y = .slice (some ⟨gx, 0, none⟩) 1 c) (hc : W.cell? ⟨gx, 0, none⟩ = some (.int .i64 x))
    (hlen : D.length + 1 ≤ 1000000) (h : ∀ v' W', W'.ownsRow B 3 1 v' (D ++ [x]).length ((D ++ [x]).map (Value.int .i64)) → W.grownBy W' v.ownBlock → wpList Tryd.prog ops Q rest (a.put o.dst v') W') : wpList Tryd.prog ops Q (o :: rest) a W :=
  wpList_plain hgd fun _ hK => by
    obtain ⟨e0, hi0, hz0, hz1, hz2⟩ := info_parts info_int
    refine wp_append_own W s y 55 ho B 3 e0 (.int .i64 0) 1 8 Tryd.underlying55 hi0 hz0 hz1 hz2 rfl (by decide) v _ _ hs hO ⟨gx, 0, none⟩ _ c [.int .i64 x] hx rfl (fun j u hj => ?_) (fun u hu => by simp at hu; subst hu; rfl) (by unfold maxLen; omega) (by omega) hB fun v' W' ho hg _ => hK _ _ (h v' W' ?_ hg)
    · have : j = 0 := by
        have := (List.getElem?_eq_some_iff.1 hj).1
        simp at this
        exact this
      subst this
      rw [add_plain5]
      simp at hj
      rw [← hj]
      exact hc
    · rw [List.length_append, List.map_append]
      exact ho
/-- append of one pair that has just been made, within a region -/
theorem app_one5_wp {o : Oper} {a : Act} {K : Act → World → Prop} {Q : Exit → Act → World → Prop} {T TS : TypeId} {B : Nat} {W : World} {D : List (Int × Int)} {v : Value} {c g : Nat} {p : Int × Int} (hu : Tryd.prog.underlying TS = some (.slice T)) (hi : (Tryd.prog.info? T).map (fun i => (i.zero, i.size, i.bytes)) = some (some (.agg #[.int .i64 0, .int .i64 0]), 2, 16)) (s x : Operand)
    (ho : o.op = .call { callee := .builtin .append, args := #[s, x], argTypes := #[TS, TS] }) (hs : a.eval s = v) (hO : W.ownsRow B T 2 v D.length (pv5 D)) (hB : B ≤ W.heap.size) (hx : a.eval x = .slice (some ⟨g, 0, none⟩) 1 c) (hL : PtRow5 W (some ⟨g, 0, none⟩) [p])
    (hlen : D.length + 1 ≤ 1000000) (h : ∀ v' W', W'.ownsRow B T 2 v' (D ++ [p]).length (pv5 (D ++ [p])) → W.grownBy W' v.ownBlock → (v'.ownBlock = v.ownBlock ∨ v'.ownBlock = some W.heap.size) → K (a.put o.dst v') W') : o.wp Tryd.prog a W K Q := by
  obtain ⟨e0, hi0, hz0, hz1, hz2⟩ := info_parts hi
  obtain ⟨v', W', hr, ho', hg, -, hloc⟩ := run_append_own_at (P := Tryd.prog) W B TS o.type T e0 (.agg #[.int .i64 0, .int .i64 0]) 2 16 hu hi0 hz0 hz1 hz2 rfl (by decide) v _ _ hO ⟨g, 0, none⟩ 1 c (pv5 [p]) (pv_len5 _) (pv_cells5 hL) (pv_one5 _) (by unfold maxLen; omega) (by omega) hB
  refine Lib.wp_append_run W s x TS TS ho v (.slice (some ⟨g, 0, none⟩) 1 c) hs hx v' W' hr (h v' W' ?_ hg hloc)
  have e : pv5 (D ++ [p]) = pv5 D ++ pv5 [p] := by unfold pv5; rw [List.flatMap_append]
  rw [e, List.length_append]
  exact ho'
theorem row1_new5 (W : World) (q : Int × Int) (t : TypeId) : PtRow5 (W.alloc (.cells #[.int .i64 q.1, .int .i64 q.2] t)) (some ⟨W.heap.size, 0, none⟩) [q] := by
  intro i hi
  obtain rfl : i = 0 := by simp at hi; omega
  exact ⟨_, _, rfl, by simp [pget5, go_sem], by simp [pget5, go_sem]⟩
theorem wdiv5 (k : Nat) : ((2 * k : Nat) : Int).tdiv 2 = (k : Int) := by
  rw [Int.natCast_mul]
  exact Int.mul_tdiv_cancel_left _ (by decide)
/-- numbers in memory -/
def Int5 (W : World) (g : Nat) (L : List Int) : Prop := ∀ j z, L[j]? = some z → W.cell? ⟨g, j, none⟩ = some (.int .i64 z)
theorem own_ints5 {B : Nat} {W : World} {v : Value} {L : List Int} (h : W.ownsRow B 3 1 v L.length (L.map (Value.int .i64))) (h0 : 0 < L.length) :
    ∃ g cap, v = .slice (some ⟨g, 0, none⟩) L.length cap ∧ B ≤ g ∧ g < W.heap.size ∧ L.length ≤ cap ∧ Int5 W g L := by
  rcases h.2 with ⟨rfl, hn⟩ | ⟨g, cap, cur, rfl, hb0, hcu, hcap, -⟩
  · omega
  · refine ⟨g, cap, rfl, hb0, (Array.getElem?_eq_some_iff.1 hcu).1, hcap, fun j z hj => ?_⟩
    have c := h.cells (g := g) rfl j (.int .i64 z) (by rw [List.getElem?_map, hj]; rfl)
    rw [add_plain5, Nat.zero_add] at c
    exact c
theorem Int5.below {W W' : World} {g B : Nat} {L : List Int} (h : Int5 W g L) (hb : Below B W W') (hg : g < B) : Int5 W' g L := fun j z hj => (hb.cell (p := ⟨g, j, none⟩) hg).trans (h j z hj)
theorem flat_get5 : ∀ (l : List (Int × Int)) (k : Nat), k < l.length → (flat5 l)[2 * k]? = some (pget5 l k).1 ∧ (flat5 l)[2 * k + 1]? = some (pget5 l k).2
  | [], k, h => by simp at h
  | q :: l, 0, _ => ⟨rfl, rfl⟩
  | q :: l, k + 1, h => by
    have := flat_get5 l k (by simpa using h)
    rw [show 2 * (k + 1) = 2 * k + 1 + 1 by omega, show 2 * k + 1 + 1 + 1 = 2 * k + 1 + 1 + 1 from rfl]
    exact this
theorem nums_get5 {p l i : List (Int × Int)} {k m : Nat} {q : Int × Int} (h : (k < p.length ∧ pget5 p k = q) ∨ (k = p.length + m ∧ m < l.length ∧ pget5 l m = q) ∨ (k = p.length + l.length + m ∧ m < i.length ∧ pget5 i m = q)) :
    (numsI5 p l i)[3 + 2 * k]? = some q.1 ∧ (numsI5 p l i)[3 + 2 * k + 1]? = some q.2 := by
  unfold numsI5
  have e : ∀ (xs : List Int) (a b c : Int) (j : Nat), ([a, b, c] ++ xs)[3 + j]? = xs[j]? := by
    intro xs a b c j
    rw [List.getElem?_append_right (by simp)]
    congr 1
    simp
  rw [Nat.add_assoc, e, e]
  have L1 := flat_len5 p
  have L2 := flat_len5 l
  have key : ∀ (a b c : List Int) (j : Nat), (j < a.length → (a ++ (b ++ c))[j]? = a[j]?) ∧ (∀ d, j = a.length + d → d < b.length → (a ++ (b ++ c))[j]? = b[d]?) ∧ (∀ d, j = a.length + b.length + d → (a ++ (b ++ c))[j]? = c[d]?) := by
    intro a b c j
    refine ⟨fun h => List.getElem?_append_left h, ?_, ?_⟩
    · rintro d rfl hd
      rw [List.getElem?_append_right (by omega), Nat.add_sub_cancel_left, List.getElem?_append_left hd]
    · rintro d rfl
      rw [List.getElem?_append_right (by omega), List.getElem?_append_right (by omega)]
      congr 1
      omega
  rcases h with ⟨h1, rfl⟩ | ⟨rfl, h1, rfl⟩ | ⟨rfl, h1, rfl⟩
  · rw [(key _ _ _ _).1 (by omega), (key _ _ _ _).1 (by omega)]
    exact flat_get5 p k h1
  · rw [(key _ _ _ _).2.1 (2 * m) (by omega) (by omega), (key _ _ _ _).2.1 (2 * m + 1) (by omega) (by omega)]
    exact flat_get5 l m h1
  · rw [(key _ _ _ _).2.2 (2 * m) (by omega), (key _ _ _ _).2.2 (2 * m + 1) (by omega)]
    exact flat_get5 i m h1
theorem nums_head5 (p l i : List (Int × Int)) : (numsI5 p l i)[0]? = some (p.length : Int) ∧ (numsI5 p l i)[1]? = some (l.length : Int) ∧ (numsI5 p l i)[2]? = some (i.length : Int) := ⟨rfl, rfl, rfl⟩
/-- what the first numbers may be -/
theorem lim_heads5 {ns : List Int} (h : Lim5 [] ns) : (0 < ns.length → 0 ≤ ns.getD 0 0 ∧ ns.getD 0 0 ≤ 200) ∧ (1 < ns.length → 0 ≤ ns.getD 1 0 ∧ ns.getD 1 0 ≤ 400) ∧ (2 < ns.length → 0 ≤ ns.getD 2 0 ∧ ns.getD 2 0 ≤ 400) := by
  match ns, h with
  | [], _ => simp
  | [a], h => exact ⟨fun _ => h.1.2, by simp, by simp⟩
  | [a, b], h => exact ⟨fun _ => h.1.2, fun _ => h.2.1.2, by simp⟩
  | a :: b :: c :: r, h => exact ⟨fun _ => h.1.2, fun _ => h.2.1.2, fun _ => h.2.2.1.2⟩
theorem all_bound5 {ns : List Int} (h : Lim5 [] ns) : 3 ≤ all5 ns ∧ all5 ns ≤ 2003 ∧ (3 ≤ ns.length → all5 ns = 3 + 2 * (ns.getD 0 0 + ns.getD 1 0 + ns.getD 2 0)) := by
  obtain ⟨a, b, c⟩ := lim_heads5 h
  unfold all5
  split
  · exact ⟨by omega, by omega, fun x => by omega⟩
  · have := a (by omega)
    have := b (by omega)
    have := c (by omega)
    exact ⟨by omega, by omega, fun _ => rfl⟩
theorem lim_snoc5 {ns : List Int} {v lo hi : Int} (h : Lim5 [] ns) (hn : (ns.length : Int) ≠ all5 ns) (hl : lim5 ns = (lo, hi)) (h1 : lo ≤ v) (h2 : v ≤ hi) : Lim5 [] (ns ++ [v]) := by
  rw [lim_app_iff5]
  refine ⟨h, ⟨?_, trivial⟩⟩
  rw [List.nil_append, hl]
  exact ⟨hn, h1, h2⟩
theorem lim_bounds5 {ns : List Int} (h : Lim5 [] ns) {lo hi : Int} (hl : lim5 ns = (lo, hi)) : -9223372036854775807 ≤ lo ∧ hi ≤ 9223372036854775807 := by
  obtain ⟨a, -, -⟩ := lim_heads5 h
  unfold lim5 at hl
  split at hl
  · obtain ⟨rfl, rfl⟩ := Prod.mk.injEq .. ▸ hl; omega
  · have := a (by omega)
    split at hl
    · obtain ⟨rfl, rfl⟩ := Prod.mk.injEq .. ▸ hl; omega
    · split at hl
      · obtain ⟨rfl, rfl⟩ := Prod.mk.injEq .. ▸ hl; omega
      · obtain ⟨rfl, rfl⟩ := Prod.mk.injEq .. ▸ hl; omega
end Go.Proofs.YtdpbmkfgolemjaaDoor
