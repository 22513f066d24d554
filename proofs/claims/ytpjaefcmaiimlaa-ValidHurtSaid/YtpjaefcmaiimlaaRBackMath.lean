/-
  Plain mathematics of RingsBack: the loops' segments are the segments.
-/
import Derived.Test.YtpjaefcmaiimlaaRRndMath
set_option linter.unusedVariables false
set_option linter.unusedSimpArgs false
set_option linter.deprecated false
namespace Go.Proofs.Ytpjaefcmaiimlaa

def NbrK (K : Int → Pt) (a b : Int) : Prop := b = (K a).x ∨ b = (K a).y
/-- each one is a neighbour of the one ahead of it -/
def Lk (K : Int → Pt) (R : List Int) : Prop := ∀ i, i + 1 < R.length → NbrK K (R.getD i 0) (R.getD (i + 1) 0)
theorem getD_left9 {R M : List Int} {i : Nat} (h : i < R.length) : (R ++ M).getD i 0 = R.getD i 0 := by
  simp only [List.getD_eq_getElem?_getD, List.getElem?_append_left h]
theorem getD_last9 {R : List Int} {p : Int} : (R ++ [p]).getD R.length 0 = p := by
  simp [List.getD_eq_getElem?_getD]
theorem lk_snoc {K : Int → Pt} {R : List Int} {b p : Int} (h : Lk K R) (h0 : 0 < R.length) (hb : R.getD (R.length - 1) 0 = b) (hp : NbrK K b p) : Lk K (R ++ [p]) := by
  intro i hi
  rw [List.length_append, List.length_singleton] at hi
  rcases Nat.lt_or_ge (i + 1) R.length with hl | hl
  · rw [getD_left9 (by omega), getD_left9 hl]
    exact h i hl
  · have e : i = R.length - 1 := by omega
    subst e
    rw [getD_left9 (by omega), hb, show R.length - 1 + 1 = R.length by omega, getD_last9]
    exact hp
theorem way_link {K : Int → Pt} {n : Nat} {f : Int} (N : Net K (n : Int)) : ∀ (k : Nat) (R : List Int) (b p c : Int), Way K (n : Int) f R b p c → 0 < R.length → R.getD (R.length - 1) 0 = b → Lk K R → n + 1 - R.length ≤ k →
    ∃ b', Lk K (R ++ loopF K f k b p) ∧ (R ++ loopF K f k b p).getD ((R ++ loopF K f k b p).length - 1) 0 = b' ∧ NbrK K b' f
  | 0, R, b, p, c, h, _, _, _, hk => by
    have := h.len
    omega
  | k + 1, R, b, p, c, h, h0, hb, hl, hk => by
    by_cases hp : p = f
    · subst hp
      rw [loopF_end, List.append_nil]
      exact ⟨b, hl, hb, h.hp⟩
    · have h2 := h.step N hp
      obtain ⟨b', h3, h4, h5⟩ := way_link N k _ _ _ _ h2 (by simp) (by simp [List.getD_eq_getElem?_getD]) (lk_snoc hl h0 hb h.hp) (by simp; omega)
      refine ⟨b', ?_, ?_, h5⟩
      · rw [loopF_step hp, show R ++ p :: loopF K f k p (nextF K b p) = (R ++ [p]) ++ loopF K f k p (nextF K b p) by simp]
        exact h3
      · rw [loopF_step hp, show R ++ p :: loopF K f k p (nextF K b p) = (R ++ [p]) ++ loopF K f k p (nextF K b p) by simp]
        exact h4
theorem ring_head (K : Int → Pt) (n : Nat) (f : Int) : (ringF K n f).getD 0 0 = f := rfl
/-- round the ring -/
theorem ring_link {K : Int → Pt} {n : Nat} {f : Int} (N : Net K (n : Int)) (h0 : 0 ≤ f) (h1 : f < (n : Int)) (h2 : (K f).x ≠ (K f).y) {i : Nat} (hi : i < (ringF K n f).length) : NbrK K ((ringF K n f).getD i 0) ((ringF K n f).getD ((i + 1) % (ringF K n f).length) 0) := by
  have hp : min (K f).x (K f).y = (K f).x ∨ min (K f).x (K f).y = (K f).y := by omega
  obtain ⟨b', h3, h4, h5⟩ := way_link N n [f] f _ f (Way.start h0 h1 h2 hp) (by simp) rfl (fun i hi => by simp at hi) (by simp)
  have e : [f] ++ loopF K f n f (min (K f).x (K f).y) = ringF K n f := rfl
  rw [e] at h3 h4
  rcases Nat.lt_or_ge (i + 1) (ringF K n f).length with hl | hl
  · rw [Nat.mod_eq_of_lt hl]
    exact h3 i hl
  · have e2 : i + 1 = (ringF K n f).length := by omega
    rw [e2, Nat.mod_self, ring_head, show i = (ringF K n f).length - 1 by omega, h4]
    exact h5
theorem ring_row {K : Int → Pt} {n : Nat} {f : Int} (N : Net K (n : Int)) (h0 : 0 ≤ f) (h1 : f < (n : Int)) (h2 : (K f).x ≠ (K f).y) : Row n (ringF K n f) := by
  obtain ⟨b, c, w⟩ := ring_way N h0 h1 h2
  refine ⟨w.nod, fun r hr => ⟨(w.inn r hr).1, (w.inn r hr).2.1⟩, ?_⟩
  obtain ⟨c1, c2⟩ := ring_closed N h0 h1 h2 f w.hf
  have n1 := (N f h0 h1 h2 _ (.inl rfl)).2.2.1
  have n2 := (N f h0 h1 h2 _ (.inr rfl)).2.2.1
  have := subset_len (A := [f, (K f).x, (K f).y]) (B := ringF K n f) (by simp [h2, Ne.symm n1, Ne.symm n2]) (fun x hx => by
    simp at hx
    rcases hx with rfl | rfl | rfl
    · exact w.hf
    · exact c1
    · exact c2)
  simpa using this
theorem mem_getD9 {R : List Int} {x : Int} (h : x ∈ R) : ∃ i, i < R.length ∧ R.getD i 0 = x := by
  obtain ⟨i, hi, e⟩ := List.getElem_of_mem h
  exact ⟨i, hi, by simp [List.getD_eq_getElem?_getD, hi, e]⟩
/-- a closed set that holds one place of a ring holds its first -/
theorem ring_back {K : Int → Pt} {n : Nat} {f : Int} (N : Net K (n : Int)) (h0 : 0 ≤ f) (h1 : f < (n : Int)) (h2 : (K f).x ≠ (K f).y) {P : Int → Prop} (hP : ∀ r, 0 ≤ r → r < (n : Int) → (K r).x ≠ (K r).y → P r → P (K r).x ∧ P (K r).y) :
    ∀ i, i < (ringF K n f).length → P ((ringF K n f).getD i 0) → P f
  | 0, _, h => by rwa [ring_head] at h
  | i + 1, hi, h => by
    have hl := ring_link N h0 h1 h2 (i := i) (by omega)
    rw [Nat.mod_eq_of_lt hi] at hl
    have hin := ring_in N h0 h1 h2 (getD_mem (R := ringF K n f) (i := i) (by omega))
    obtain ⟨q0, q1, -, q3, q4⟩ := N _ hin.1 hin.2.1 hin.2.2 _ hl
    have hc := hP _ q0 q1 q3 h
    refine ring_back N h0 h1 h2 hP i (by omega) ?_
    rcases q4 with e | e
    · rw [e]; exact hc.1
    · rw [e]; exact hc.2
theorem seg_norm_mem {R : List Int} {x : Pt} (h : x ∈ (ringSegs R).map norm) : ∃ i, i < R.length ∧ x = norm ⟨R.getD i 0, R.getD ((i + 1) % R.length) 0⟩ := by
  obtain ⟨s, hs, rfl⟩ := List.mem_map.1 h
  unfold ringSegs at hs
  obtain ⟨i, hi, rfl⟩ := List.mem_map.1 hs
  exact ⟨i, by simpa using hi, rfl⟩
theorem segsF_append (A B : List (List Int)) : segsF (A ++ B) = segsF A ++ segsF B := by unfold segsF; rw [List.flatMap_append]
theorem mem_segsF {L : List (List Int)} {x : Pt} (h : x ∈ (segsF L).map norm) : ∃ R ∈ L, x ∈ (ringSegs R).map norm := by
  obtain ⟨s, hs, rfl⟩ := List.mem_map.1 h
  unfold segsF at hs
  obtain ⟨R, hR, h2⟩ := List.mem_flatMap.1 hs
  exact ⟨R, hR, List.mem_map.2 ⟨s, h2, rfl⟩⟩
/-- what holds of the loops so far -/
structure Upto (K : Int → Pt) (n m : Nat) : Prop where
  rows : ∀ R ∈ ringsTo K n m, Row n R
  link : ∀ R ∈ ringsTo K n m, ∀ i, i < R.length → NbrK K (R.getD i 0) (R.getD ((i + 1) % R.length) 0)
  shut : ∀ R ∈ ringsTo K n m, ∀ r ∈ R, (K r).x ∈ R ∧ (K r).y ∈ R
  cov : ∀ i : Nat, i < m → (K (i : Int)).x ≠ (K (i : Int)).y → ∃ R ∈ ringsTo K n m, (i : Int) ∈ R
  act : ∀ R ∈ ringsTo K n m, ∀ r ∈ R, (K r).x ≠ (K r).y
  nod : ((segsF (ringsTo K n m)).map norm).Nodup
theorem upto {K : Int → Pt} {n : Nat} (N : Net K (n : Int)) : ∀ m, m ≤ n → Upto K n m
  | 0, _ => ⟨fun R h => by simp [ringsTo] at h, fun R h => by simp [ringsTo] at h, fun R h => by simp [ringsTo] at h, fun i h => absurd h (Nat.not_lt_zero _), fun R h => by simp [ringsTo] at h, by simp [ringsTo, segsF]⟩
  | m + 1, hm => by
    have U := upto N m (by omega)
    cases hc : ((ringsTo K n m).any (fun r => r.contains (m : Int)) || decide ((K (m : Int)).x = (K (m : Int)).y))
    case true =>
      rw [Bool.or_eq_true] at hc
      have e : ringsTo K n (m + 1) = ringsTo K n m := ringsTo_skip (by rw [Bool.or_eq_true]; exact hc)
      refine ⟨by rw [e]; exact U.rows, by rw [e]; exact U.link, by rw [e]; exact U.shut, fun i hi ha => ?_, by rw [e]; exact U.act, by rw [e]; exact U.nod⟩
      rw [e]
      rcases Nat.lt_or_eq_of_le (Nat.le_of_lt_succ hi) with h | rfl
      · exact U.cov i h ha
      · rcases hc with h | h
        · obtain ⟨R, hR, h2⟩ := List.any_eq_true.1 h
          exact ⟨R, hR, by simpa using h2⟩
        · exact absurd (of_decide_eq_true h) ha
    case false =>
      have e : ringsTo K n (m + 1) = ringsTo K n m ++ [ringF K n (m : Int)] := ringsTo_new hc
      rw [Bool.or_eq_false_iff] at hc
      have ha : (K (m : Int)).x ≠ (K (m : Int)).y := of_decide_eq_false hc.2
      have h0 : (0 : Int) ≤ (m : Int) := by omega
      have h1 : (m : Int) < (n : Int) := by omega
      have hno : ∀ R ∈ ringsTo K n m, (m : Int) ∉ R := fun R hR h => by
        have := List.any_eq_false.1 hc.1 R hR
        simp [h] at this
      have hrow := ring_row N h0 h1 ha
      have hcl := ring_closed N h0 h1 ha
      refine ⟨fun R hR => ?_, fun R hR => ?_, fun R hR => ?_, fun i hi hai => ?_, fun R hR => ?_, ?_⟩
      · rw [e] at hR
        rcases List.mem_append.1 hR with h | h
        · exact U.rows R h
        · rw [List.mem_singleton.1 h]; exact hrow
      · rw [e] at hR
        rcases List.mem_append.1 hR with h | h
        · exact U.link R h
        · rw [List.mem_singleton.1 h]; exact fun i hi => ring_link N h0 h1 ha hi
      · rw [e] at hR
        rcases List.mem_append.1 hR with h | h
        · exact U.shut R h
        · rw [List.mem_singleton.1 h]; exact hcl
      · rw [e]
        rcases Nat.lt_or_eq_of_le (Nat.le_of_lt_succ hi) with h | rfl
        · obtain ⟨R, hR, h2⟩ := U.cov i h hai
          exact ⟨R, List.mem_append_left _ hR, h2⟩
        · exact ⟨ringF K n (i : Int), List.mem_append_right _ (by simp), by
            have h9 := getD_mem (R := ringF K n (i : Int)) (i := 0) (by have := hrow.big; omega)
            rwa [ring_head] at h9⟩
      · rw [e] at hR
        rcases List.mem_append.1 hR with h | h
        · exact U.act R h
        · rw [List.mem_singleton.1 h]; exact fun r hr => (ring_in N h0 h1 ha hr).2.2
      · rw [e, segsF_append, List.map_append, List.nodup_append]
        refine ⟨U.nod, ?_, fun x hx y hy hxy => ?_⟩
        · have : segsF [ringF K n (m : Int)] = ringSegs (ringF K n (m : Int)) := by simp [segsF]
          rw [this]
          exact hrow.nodS
        · subst hxy
          obtain ⟨R, hR, h3⟩ := mem_segsF hx
          obtain ⟨R', hR', h4⟩ := mem_segsF hy
          rw [List.mem_singleton.1 hR'] at h4
          obtain ⟨i, hi, e1⟩ := seg_norm_mem h3
          obtain ⟨j, hj, e2⟩ := seg_norm_mem h4
          have key : (ringF K n (m : Int)).getD j 0 ∈ R := by
            have hRb := (U.rows R hR).big
            rcases norm_eq.1 (e1.symm.trans e2) with ⟨k1, -⟩ | ⟨-, k2⟩
            · dsimp only at k1
              rw [← k1]; exact getD_mem hi
            · dsimp only at k2
              rw [← k2]; exact getD_mem (Nat.mod_lt _ (by omega))
          exact hno R hR (ring_back N h0 h1 ha (P := fun r => r ∈ R) (fun r _ _ _ hr => U.shut R hR r hr) j hj key)
/-- the loops' segments are the segments -/
theorem back_same {n : Nat} {l : List Pt} (G : Good n l) : SameSegs l (segsF (ringsTo (pr l) n n)) := by
  have N := G.net
  have U := upto N n (Nat.le_refl _)
  have hl : (l.map norm).Nodup := G.nod
  refine (List.perm_ext_iff_of_nodup hl U.nod).2 fun t => ⟨fun ht => ?_, fun ht => ?_⟩
  · obtain ⟨s, hs, rfl⟩ := List.mem_map.1 ht
    have ho := G.ok.2.2 s hs
    unfold okS at ho
    obtain ⟨o1, o2, o3, o4, o5⟩ := ho
    obtain ⟨a, ha⟩ := Int.eq_ofNat_of_zero_le o1
    have hy : s.y ∈ nbs l s.x := mem_nbs.2 ⟨s, hs, .inl ⟨rfl, rfl⟩⟩
    have hact : (pr l s.x).x ≠ (pr l s.x).y := by
      rcases G.cases o1 o3 with ⟨k1, -⟩ | ⟨-, k2⟩
      · rw [k1] at hy; simp at hy
      · exact k2
    have hyn := (G.mem o1 o3 hact).1 hy
    obtain ⟨R, hR, hin⟩ := U.cov a (by omega) (by rw [← ha]; exact hact)
    rw [← ha] at hin
    obtain ⟨i, hi, ei⟩ := mem_getD9 hin
    have hrow := U.rows R hR
    have hb := hrow.big
    have memseg : ∀ j, j < R.length → norm ⟨R.getD j 0, R.getD ((j + 1) % R.length) 0⟩ ∈ (segsF (ringsTo (pr l) n n)).map norm := fun j hj => by
      refine List.mem_map.2 ⟨⟨R.getD j 0, R.getD ((j + 1) % R.length) 0⟩, ?_, rfl⟩
      unfold segsF
      refine List.mem_flatMap.2 ⟨R, hR, ?_⟩
      unfold ringSegs
      exact List.mem_map.2 ⟨j, by simpa using hj, rfl⟩
    -- the one behind, and the one ahead
    obtain ⟨j, hj, ej⟩ : ∃ j, j < R.length ∧ (j + 1) % R.length = i := by
      rcases Nat.eq_zero_or_pos i with h | h
      · exact ⟨R.length - 1, by omega, by rw [show R.length - 1 + 1 = R.length by omega, Nat.mod_self, h]⟩
      · exact ⟨i - 1, by omega, by rw [show i - 1 + 1 = i by omega, Nat.mod_eq_of_lt hi]⟩
    have l1 := U.link R hR i hi
    have l2 := U.link R hR j hj
    rw [ej, ei] at l2
    rw [ei] at l1
    have hjin := hrow.inn _ (getD_mem hj)
    have hjact : (pr l (R.getD j 0)).x ≠ (pr l (R.getD j 0)).y := U.act R hR _ (getD_mem hj)
    have l4 := N _ hjin.1 hjin.2 hjact _ l2
    have hback : NbrK (pr l) s.x (R.getD j 0) := l4.2.2.2.2
    have hne : R.getD j 0 ≠ R.getD ((i + 1) % R.length) 0 := fun e => by
      have := hrow.inj hj (Nat.mod_lt _ (by omega)) e
      have h1 : (i + 1) % R.length = if i + 1 = R.length then 0 else i + 1 := by
        split
        · next h => rw [h, Nat.mod_self]
        · exact Nat.mod_eq_of_lt (by omega)
      have h2 : (j + 1) % R.length = if j + 1 = R.length then 0 else j + 1 := by
        split
        · next h => rw [h, Nat.mod_self]
        · exact Nat.mod_eq_of_lt (by omega)
      rw [h1] at this
      rw [h2] at ej
      split at this <;> split at ej <;> omega
    have hor : s.y = R.getD ((i + 1) % R.length) 0 ∨ s.y = R.getD j 0 := by
      unfold NbrK at l1 hback
      omega
    rcases hor with h | h
    · have := memseg i hi
      rw [ei, ← h] at this
      exact this
    · have := memseg j hj
      rw [ej, ei, ← h] at this
      rw [show norm s = norm ⟨s.y, s.x⟩ from norm_eq.2 (.inr ⟨rfl, rfl⟩)]
      exact this
  · obtain ⟨R, hR, h3⟩ := mem_segsF ht
    obtain ⟨i, hi, rfl⟩ := seg_norm_mem h3
    have hrow := U.rows R hR
    have hin := hrow.inn _ (getD_mem hi)
    have l1 := U.link R hR i hi
    have hact := U.act R hR _ (getD_mem hi)
    have hm := (G.mem hin.1 hin.2 hact).2 l1
    obtain ⟨s, hs, h5⟩ := mem_nbs.1 hm
    refine List.mem_map.2 ⟨s, hs, norm_eq.2 ?_⟩
    dsimp only
    omega
/-- how many of the first m -/
def cntK (f : Nat → Bool) : Nat → Nat
  | 0 => 0
  | m + 1 => cntK f m + if f m = true then 1 else 0
theorem cntK_le (f : Nat → Bool) : ∀ m, cntK f m ≤ m
  | 0 => Nat.le_refl _
  | m + 1 => by
    have := cntK_le f m
    unfold cntK
    split <;> omega
def sameB9 (s t : Pt) : Bool := decide (norm s = norm t)
theorem cntK_count (S : List Pt) (t : Pt) : ∀ m, m ≤ S.length → cntK (fun j => sameB9 (pget S j) t) m = ((S.take m).map norm).count (norm t)
  | 0, _ => by simp [cntK]
  | m + 1, h => by
    have ih := cntK_count S t m (by omega)
    have e : pget S m = S[m] := by unfold pget; simp [List.getD, show m < S.length by omega]
    rw [List.take_succ_eq_append_getElem (by omega), List.map_append, List.count_append, ← ih]
    show cntK _ m + _ = _
    congr 1
    dsimp only
    unfold sameB9
    rw [← e]
    simp only [List.map_cons, List.map_nil, List.count_singleton, decide_eq_true_eq]
    by_cases k : norm (pget S m) = norm t <;> simp [k]
theorem deg_append9 (A B : List Pt) (p : Int) : deg (A ++ B) p = deg A p + deg B p := by
  unfold deg nbs
  rw [List.flatMap_append, List.length_append]
theorem deg_segsF : ∀ (L : List (List Int)) (p : Int), deg (segsF L) p = 2 * L.flatten.count p
  | [], p => by simp [segsF, deg, nbs]
  | R :: L, p => by
    have e : segsF (R :: L) = ringSegs R ++ segsF L := by unfold segsF; rw [List.flatMap_cons]
    rw [e, deg_append9, deg_ring, deg_segsF L p, List.flatten_cons, List.count_append]
    omega
/-- what RingsBack asks -/
structure BackOk (k : Nat) (l : List Pt) (L : List (List Int)) : Prop where
  r1 : ringsR (k : Int) l = (L, 0, 0)
  r2 : ringsR (k : Int) (segsF L) = (L, 0, 0)
  ok : okL (k : Int) l
  len : (segsF L).length = l.length
  one : ∀ i, i < l.length → cntK (fun j => sameB9 (pget (segsF L) j) (pget l i)) l.length = 1
  dg : ∀ p : Int, deg l p = 2 * L.flatten.count p
theorem back_cases (n : Int) (l : List Pt) : (∃ a e, ringsR n l = ([], a, e) ∧ e ≠ 0) ∨ ∃ k : Nat, ∃ L, n = (k : Int) ∧ BackOk k l L := by
  by_cases hl : okL n l
  · by_cases ha : againF l < 0
    · by_cases hf : forkF n.toNat l < 0
      · right
        obtain ⟨k, rfl⟩ := Int.eq_ofNat_of_zero_le hl.1
        have hr := ringsR_ok hl ha hf
        rw [Int.toNat_natCast] at hr hf
        have G := good_of hl ha hf
        have hS := back_same G
        have hp := hS.length_eq
        rw [List.length_map, List.length_map] at hp
        refine ⟨k, _, rfl, hr, ?_, hl, hp.symm, fun i hi => ?_, fun p => by rw [hS.dg p, deg_segsF]⟩
        · have h2 := hS.rings (k : Int)
          have hl2 := hS.okl hl
          have ha2 := hS.again.1 ha
          have hf2 : forkF k (segsF (ringsTo (pr l) k k)) < 0 := by rw [← hS.fork]; exact hf
          have hr2 := ringsR_ok hl2 ha2 (by rw [Int.toNat_natCast]; exact hf2)
          rw [Int.toNat_natCast] at hr2
          rw [hr, hr2] at h2
          rw [hr2]
          exact congrArg (fun X : List (List Int) => (X, (0 : Int), (0 : Int))) h2.1.symm
        · have e := cntK_count (segsF (ringsTo (pr l) k k)) (pget l i) l.length (by omega)
          rw [e, hp, List.take_length, ← hS.count_eq]
          have hm : norm (pget l i) ∈ l.map norm := List.mem_map.2 ⟨_, pget_mem hi, rfl⟩
          rw [List.Nodup.count G.nod, if_pos hm]
      · left
        exact ⟨_, _, ringsR_fork hl ha (by omega), by decide⟩
    · left
      exact ⟨_, _, ringsR_twice hl (by omega), by decide⟩
  · left
    exact ⟨_, _, ringsR_arg hl, by decide⟩
theorem sameB9_iff {s t : Pt} : sameB9 s t = true ↔ (s.x = t.x ∧ s.y = t.y) ∨ (s.x = t.y ∧ s.y = t.x) := by unfold sameB9; rw [decide_eq_true_iff, norm_eq]
end Go.Proofs.Ytpjaefcmaiimlaa
