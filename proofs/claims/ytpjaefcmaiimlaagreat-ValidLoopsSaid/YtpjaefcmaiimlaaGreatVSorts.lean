/-
  The plain mathematics of layer 7: merging, sorting, the order of places.
-/
import Derived.Test.YtpjaefcmaiimlaaGreatRMems
import Derived.Deep.Cut
set_option linter.unusedVariables false
set_option linter.unusedSimpArgs false
set_option linter.deprecated false
namespace Go.Proofs.YtpjaefcmaiimlaaGreat

/-- two rows as one: the head of the second one if it is less, else that of the first -/
def mrgW {α:Type} (lt:α → α → Bool):List α → List α → List α
 | [],ys=>ys
 | x :: xs,[]=>x :: xs
 | x :: xs,y :: ys=>if lt y x then y :: mrgW lt (x :: xs) ys else x :: mrgW lt xs (y :: ys)
termination_by xs ys=>xs.length + ys.length
theorem mrgW_nil {α:Type} (lt:α → α → Bool) (ys:List α):mrgW lt [] ys=ys:=by rw [mrgW]
theorem mrgW_nil2 {α:Type} (lt:α → α → Bool) (xs:List α):mrgW lt xs []=xs:=by cases xs <;> rw [mrgW]
theorem mrgW_b {α:Type} {lt:α → α → Bool} {x y:α} {xs ys:List α} (h:lt y x=true):mrgW lt (x :: xs) (y :: ys)=y :: mrgW lt (x :: xs) ys:=by rw [mrgW,if_pos h]
theorem mrgW_a {α:Type} {lt:α → α → Bool} {x y:α} {xs ys:List α} (h:lt y x=false):mrgW lt (x :: xs) (y :: ys)=x :: mrgW lt xs (y :: ys):=by rw [mrgW,if_neg (by rw [h];exact Bool.false_ne_true)]
theorem mrgW_perm {α:Type} (lt:α → α → Bool):∀ xs ys:List α,(mrgW lt xs ys).Perm (xs ++ ys)
 | [],ys=>by rw [mrgW];exact List.Perm.refl _
 | x :: xs,[]=>by rw [mrgW,List.append_nil]
 | x :: xs,y :: ys=>by
  rw [mrgW]
  split
  ·exact ((mrgW_perm lt (x :: xs) ys).cons y).trans (List.perm_middle (a:=y) (l₁:=x :: xs) (l₂:=ys)).symm
  ·exact (mrgW_perm lt xs (y :: ys)).cons x
termination_by xs ys=>xs.length + ys.length
/-- sorted by halves -/
def msort {α:Type} (lt:α → α → Bool) (l:List α):List α:=
 if l.length < 2 then l else mrgW lt (msort lt (l.take (l.length / 2))) (msort lt (l.drop (l.length / 2)))
termination_by l.length
decreasing_by
 ·rw [List.length_take];omega
 ·rw [List.length_drop];omega
theorem msort_small {α:Type} (lt:α → α → Bool) {l:List α} (h:l.length < 2):msort lt l=l:=by rw [msort,if_pos h]
theorem msort_half {α:Type} (lt:α → α → Bool) {l:List α} (h:2 ≤ l.length):msort lt l=mrgW lt (msort lt (l.take (l.length / 2))) (msort lt (l.drop (l.length / 2))):=by rw [msort,if_neg (by omega)]
theorem msort_ind {α:Type} (P:List α → Prop) (h1:∀ l,l.length < 2 → P l) (h2:∀ l,2 ≤ l.length → P (l.take (l.length / 2)) → P (l.drop (l.length / 2)) → P l) (l:List α):P l:=by
 have key:∀ n (l:List α),l.length ≤ n → P l:=by
  intro n
  induction n with
  | zero=>exact fun l h=>h1 l (by omega)
  | succ n ih=>
   intro l h
   rcases Nat.lt_or_ge l.length 2 with k | k
   ·exact h1 l k
   ·exact h2 l k (ih _ (by rw [List.length_take];omega)) (ih _ (by rw [List.length_drop];omega))
 exact key _ l (Nat.le_refl _)
theorem msort_perm {α:Type} (lt:α → α → Bool) (l:List α):(msort lt l).Perm l:=by
 induction l using msort_ind with
 | h1 l h=>rw [msort_small lt h]
 | h2 l h a b=>
  rw [msort_half lt h]
  refine (mrgW_perm _ _ _).trans ((a.append b).trans ?_)
  rw [List.take_append_drop]
theorem msort_len {α:Type} (lt:α → α → Bool) (l:List α):(msort lt l).length=l.length:=(msort_perm lt l).length_eq
/-- the lesser X, or the same X and the lesser Y -/
def lessP (a b:Pt):Bool:=if a.x=b.x then decide (a.y < b.y) else decide (a.x < b.x)
theorem lessP_iff {a b:Pt}:lessP a b=true ↔ a.x < b.x ∨ (a.x=b.x∧a.y < b.y):=by
 unfold lessP
 split
 ·rw [decide_eq_true_iff];omega
 ·rw [decide_eq_true_iff];omega
theorem lessP_no {a b:Pt}:lessP a b=false ↔ b.x < a.x ∨ (a.x=b.x∧b.y ≤ a.y):=by
 rw [← Bool.not_eq_true,lessP_iff];omega
theorem pt_eq {a b:Pt}:a=b ↔ a.x=b.x∧a.y=b.y:=⟨fun h=>by subst h;exact ⟨rfl,rfl⟩,fun h=>Pt.ext' h.1 h.2⟩
theorem lessP_trans {a b c:Pt} (h:lessP a b=true) (k:lessP b c=true):lessP a c=true:=by rw [lessP_iff] at *;omega
theorem lessP_anti {a b:Pt} (h:lessP a b=true):lessP b a=false:=by rw [lessP_iff] at h;rw [lessP_no];omega
theorem lessP_self (a:Pt):lessP a a=false:=by rw [lessP_no];omega
theorem lessP_tri {a b:Pt} (h:lessP a b=false) (k:lessP b a=false):a=b:=by rw [lessP_no] at *;rw [pt_eq];omega
/-- the place of number i -/
def pg (p:List Pt) (i:Int):Pt:=pget p i.toNat
def ltI (p:List Pt) (i k:Int):Bool:=lessP (pg p i) (pg p k)
/-- number i stands ahead of number k -/
def Ahead (p:List Pt) (i k:Int):Prop:=ltI p i k=true ∨ (pg p i=pg p k∧i < k)
instance (p:List Pt) (i k:Int):Decidable (Ahead p i k):=by unfold Ahead;exact inferInstance
theorem ahead_of {p:List Pt} {i k:Int} (h:ltI p k i=false) (hik:i < k):Ahead p i k:=by
 cases e:ltI p i k with
 | true=>exact .inl e
 | false=>exact .inr ⟨lessP_tri e h,hik⟩
theorem ahead_no {p:List Pt} {i k:Int} (h:Ahead p i k):ltI p k i=false:=by
 rcases h with h | ⟨h,-⟩
 ·exact lessP_anti h
 ·unfold ltI;rw [h];exact lessP_self _
theorem ahead_trans {p:List Pt} {i k m:Int} (h:Ahead p i k) (h':Ahead p k m):Ahead p i m:=by
 rcases h with h | ⟨h,hl⟩
 ·rcases h' with h' | ⟨h',-⟩
  ·exact .inl (lessP_trans h h')
  ·exact .inl (by unfold ltI at *;rw [← h'];exact h)
 ·rcases h' with h' | ⟨h',hl'⟩
  ·exact .inl (by unfold ltI at *;rw [h];exact h')
  ·exact .inr ⟨h.trans h',by omega⟩
theorem mrg_ahead (p:List Pt):∀ xs ys:List Int,xs.Pairwise (Ahead p) → ys.Pairwise (Ahead p) → (∀ x ∈ xs,∀ y ∈ ys,x < y) → (mrgW (ltI p) xs ys).Pairwise (Ahead p)
 | [],ys,_,h,_=>by rw [mrgW];exact h
 | x :: xs,[],h,_,_=>by rw [mrgW];exact h
 | x :: xs,y :: ys,h1,h2,h3=>by
  have k1:=List.pairwise_cons.1 h1
  have k2:=List.pairwise_cons.1 h2
  cases e:ltI p y x with
  | true=>
   rw [mrgW_b e,List.pairwise_cons]
   refine ⟨fun z hz=>?_,mrg_ahead p (x :: xs) ys h1 k2.2 (fun a ha b hb=>h3 a ha b (List.mem_cons_of_mem _ hb))⟩
   rcases List.mem_append.1 ((mrgW_perm _ _ _).mem_iff.1 hz) with hz | hz
   ·rcases List.mem_cons.1 hz with rfl | hz
    ·exact .inl e
    ·exact ahead_trans (.inl e) (k1.1 z hz)
   ·exact k2.1 z hz
  | false=>
   have hxy:=ahead_of e (h3 x (List.mem_cons_self ..) y (List.mem_cons_self ..))
   rw [mrgW_a e,List.pairwise_cons]
   refine ⟨fun z hz=>?_,mrg_ahead p xs (y :: ys) k1.2 h2 (fun a ha b hb=>h3 a (List.mem_cons_of_mem _ ha) b hb)⟩
   rcases List.mem_append.1 ((mrgW_perm _ _ _).mem_iff.1 hz) with hz | hz
   ·exact k1.1 z hz
   ·rcases List.mem_cons.1 hz with rfl | hz
    ·exact hxy
    ·exact ahead_trans hxy (k2.1 z hz)
termination_by xs ys=>xs.length + ys.length
theorem msort_ahead (p:List Pt) (l:List Int) (h:l.Pairwise (· < ·)):(msort (ltI p) l).Pairwise (Ahead p):=by
 induction l using msort_ind with
 | h1 l hl=>
  rw [msort_small _ hl]
  match l,hl with
  | [],_=>exact List.Pairwise.nil
  | [a],_=>exact List.pairwise_singleton _ _
 | h2 l hl a b=>
  rw [msort_half _ hl]
  have h':(l.take (l.length / 2) ++ l.drop (l.length / 2)).Pairwise (· < ·):=by rw [List.take_append_drop];exact h
  obtain ⟨c1,c2,c3⟩:=List.pairwise_append.1 h'
  exact mrg_ahead p _ _ (a c1) (b c2) (fun x hx y hy=>c3 x ((msort_perm _ _).mem_iff.1 hx) y ((msort_perm _ _).mem_iff.1 hy))
/-- the numbers of n places -/
def idx (n:Nat):List Int:=(List.range n).map fun (i:Nat)=>(i:Int)
theorem idx_len (n:Nat):(idx n).length=n:=by simp [idx]
theorem idx_snoc (n:Nat):idx (n + 1)=idx n ++ [(n:Int)]:=by simp [idx,List.range_succ]
theorem idx_mem {n:Nat} {i:Int}:i ∈ idx n ↔ 0 ≤ i∧i < n:=by
 unfold idx
 rw [List.mem_map]
 constructor
 ·rintro ⟨k,hk,rfl⟩
  have:=List.mem_range.1 hk
  omega
 ·intro h
  exact ⟨i.toNat,List.mem_range.2 (by omega),by omega⟩
theorem idx_rise:∀ n,(idx n).Pairwise (· < ·)
 | 0=>List.Pairwise.nil
 | n + 1=>by
  rw [idx_snoc,List.pairwise_append]
  refine ⟨idx_rise n,List.pairwise_singleton _ _,fun x hx y hy=>?_⟩
  simp at hy
  have:=idx_mem.1 hx
  omega
theorem idx_set {n k:Nat} (h:k < n):(idx k ++ List.replicate (n - k) 0).set k (k:Int)=idx (k + 1) ++ List.replicate (n - (k + 1)) 0:=by
 rw [List.set_append,if_neg (by rw [idx_len];exact Nat.lt_irrefl _),idx_len,Nat.sub_self,show n - k=n - (k + 1) + 1 by omega,List.replicate_succ,List.set_cons_zero,idx_snoc,List.append_assoc]
 rfl
/-- the numbers of all places in their order -/
structure Ordered (p:List Pt) (l:List Int):Prop where
 rise:l.Pairwise (Ahead p)
 all:l.Perm (idx p.length)
theorem ordered_msort (p:List Pt):Ordered p (msort (ltI p) (idx p.length)):=⟨msort_ahead p _ (idx_rise _),msort_perm _ _⟩
theorem Ordered.len {p:List Pt} {l:List Int} (h:Ordered p l):l.length=p.length:=by rw [h.all.length_eq,idx_len]
theorem Ordered.mem {p:List Pt} {l:List Int} (h:Ordered p l) {i:Int}:i ∈ l ↔ 0 ≤ i∧i < p.length:=by rw [h.all.mem_iff,idx_mem]
theorem Ordered.at {p:List Pt} {l:List Int} (h:Ordered p l) {m:Nat} (hm:m < l.length):0 ≤ l[m]∧l[m] < p.length:=h.mem.1 (List.getElem_mem hm)
theorem Ordered.pos {p:List Pt} {l:List Int} (h:Ordered p l) {i:Int} (hi:0 ≤ i∧i < p.length):∃ m,∃ hm:m < l.length,l[m]=i:=by
 obtain ⟨m,hm,e⟩:=List.getElem_of_mem (h.mem.2 hi)
 exact ⟨m,hm,e⟩
theorem Ordered.lt {p:List Pt} {l:List Int} (h:Ordered p l) {s t:Nat} (hs:s < t) (ht:t < l.length):Ahead p (l[s]'(by omega)) l[t]:=List.pairwise_iff_getElem.1 h.rise s t (by omega) ht hs
end Go.Proofs.YtpjaefcmaiimlaaGreat

/-
  The plain mathematics of layer 7: ranks, the first two that are alike, boxes.
-/
namespace Go.Proofs.YtpjaefcmaiimlaaGreat

/-- is the place of number k the first of those like it? -/
def firstP (p:List Pt) (k:Nat):Bool:=(List.range k).all fun j=>decide (pget p j ≠ pget p k)
/-- how many different places are less -/
def rkTo (p:List Pt) (q:Pt) (n:Nat):Nat:=(List.range n).countP fun k=>lessP (pget p k) q && firstP p k
def rk (p:List Pt) (q:Pt):Nat:=rkTo p q p.length
/-- ranks along the order -/
theorem pg_cast (p:List Pt) (k:Nat):pg p (k:Int)=pget p k:=by unfold pg;rw [Int.toNat_natCast]
def ranksM (p:List Pt):List Int:=(List.range p.length).map fun i=>((rk p (pget p i):Nat):Int)
theorem ranksM_len (p:List Pt):(ranksM p).length=p.length:=by simp [ranksM]
theorem ranksM_at (p:List Pt) {i:Nat} (h:i < p.length):(ranksM p)[i]'(by rw [ranksM_len];exact h)=((rk p (pget p i):Nat):Int):=by simp [ranksM]

/-- the first two that are alike -/
structure Pair1 (p:List Pt) (i k:Nat):Prop where
 lt:i < k
 le:k < p.length
 eq:pget p i=pget p k
 least:∀ i' k',i' < k' → k' < p.length → pget p i'=pget p k' → i < i' ∨ (i=i'∧k ≤ k')
def NoPair (p:List Pt):Prop:=∀ i k,i < k → k < p.length → pget p i ≠ pget p k
def TwiceIs (p:List Pt) (a b:Int) (ok:Bool):Prop:=(ok=false∧a=0∧b=0∧NoPair p) ∨ (ok=true∧∃ i k:Nat,a=i∧b=k∧Pair1 p i k)
/-- what the walk along the order knows behind its first m -/
structure TwiceTo (p:List Pt) (l:List Int) (m:Nat) (a b:Int) (ok:Bool):Prop where
 no:ok=false → a=0∧b=0∧∀ s (h:s + 1 < l.length),s + 1 < m → pg p l[s] ≠ pg p l[s + 1]
 yes:ok=true → (∃ s,∃ h:s + 1 < l.length,a=l[s]∧b=l[s + 1]∧pg p l[s]=pg p l[s + 1])∧∀ s (h:s + 1 < l.length),s + 1 < m → pg p l[s]=pg p l[s + 1] → a ≤ l[s]
theorem twiceTo_start (p:List Pt) (l:List Int):TwiceTo p l 1 0 0 false:=⟨fun _=>⟨rfl,rfl,fun s _ h=>absurd h (by omega)⟩,fun h=>by cases h⟩
theorem TwiceTo.skip {p:List Pt} {l:List Int} {m:Nat} {a b:Int} {ok:Bool} (h:TwiceTo p l (m + 1) a b ok) (hm:m + 1 < l.length) (hs:pg p l[m]=pg p l[m + 1] → ok=true∧a ≤ l[m]):TwiceTo p l (m + 2) a b ok:=by
 refine ⟨fun e=>?_,fun e=>?_⟩
 ·obtain ⟨h1,h2,h3⟩:=h.no e
  refine ⟨h1,h2,fun s hl hs2 e2=>?_⟩
  rcases Nat.lt_or_ge s m with h4 | h4
  ·exact h3 s hl (by omega) e2
  ·obtain rfl:s=m:=by omega
   rw [(hs e2).1] at e
   cases e
 ·obtain ⟨h1,h2⟩:=h.yes e
  refine ⟨h1,fun s hl hs2 e2=>?_⟩
  rcases Nat.lt_or_ge s m with h4 | h4
  ·exact h2 s hl (by omega) e2
  ·obtain rfl:s=m:=by omega
   exact (hs e2).2
theorem TwiceTo.take {p:List Pt} {l:List Int} {m:Nat} {a b:Int} {ok:Bool} (h:TwiceTo p l (m + 1) a b ok) (hm:m + 1 < l.length) (he:pg p l[m]=pg p l[m + 1]) (hs:ok=true → l[m] < a):TwiceTo p l (m + 2) l[m] l[m + 1] true:=by
 refine ⟨(fun e=>by cases e),fun _=>⟨⟨m,hm,rfl,rfl,he⟩,fun s hl hs2 e2=>?_⟩⟩
 rcases Nat.lt_or_ge s m with h4 | h4
 ·cases ok with
  | true=>
   have:=(h.yes rfl).2 s hl (by omega) e2
   have:=hs rfl
   omega
  | false=>exact absurd e2 ((h.no rfl).2.2 s hl (by omega))
 ·obtain rfl:s=m:=by omega
  exact Int.le_refl _
theorem TwiceTo.done {p:List Pt} {l:List Int} (ho:Ordered p l) {m:Nat} {a b:Int} {ok:Bool} (h:TwiceTo p l m a b ok) (hm:l.length ≤ m):TwiceIs p a b ok:=by
 have key:∀ i' k',i' < k' → k' < p.length → pget p i'=pget p k' → ∃ s,∃ h:s + 1 < l.length,l[s]=(i':Int)∧pg p l[s]=pg p l[s + 1]∧l[s + 1] ≤ (k':Int):=by
  intro i' k' hlt hle he
  obtain ⟨s,hs,es⟩:=ho.pos (i:=(i':Int)) (by omega)
  obtain ⟨t,ht,et⟩:=ho.pos (i:=(k':Int)) (by omega)
  have hst:s < t:=by
   rcases Nat.lt_trichotomy s t with h | h | h
   ·exact h
   ·subst h;omega
   ·exfalso
    rcases ho.lt h hs with h2 | ⟨-,h2⟩
    ·unfold ltI at h2
     rw [es,et,pg_cast,pg_cast,he,lessP_self] at h2
     cases h2
    ·omega
  refine ⟨s,by omega,es,?_⟩
  have a1:=ho.lt (Nat.lt_succ_self s) (show s + 1 < l.length by omega)
  rcases Nat.lt_or_ge (s + 1) t with h2 | h2
  ·have a2:=ho.lt h2 ht
   have e1:pg p l[s]=pg p l[t]:=by rw [es,et,pg_cast,pg_cast,he]
   have n1:=ahead_no a1
   have n2:=ahead_no a2
   unfold ltI at n1 n2
   rw [← e1] at n2
   have e2:=lessP_tri n1 n2
   refine ⟨e2.symm,?_⟩
   rcases a2 with a2 | ⟨-,a2⟩
   ·unfold ltI at a2
    rw [← e1,e2,lessP_self] at a2
    cases a2
   ·omega
  ·obtain rfl:t=s + 1:=by omega
   exact ⟨by rw [es,et,pg_cast,pg_cast,he],by omega⟩
 cases ok with
 | false=>
  obtain ⟨h1,h2,h3⟩:=h.no rfl
  refine .inl ⟨rfl,h1,h2,fun i k hik hk e=>?_⟩
  obtain ⟨s,hs,-,e2,-⟩:=key i k hik hk e
  exact h3 s hs (by omega) e2
 | true=>
  obtain ⟨⟨s,hs,rfl,rfl,he⟩,h2⟩:=h.yes rfl
  have b1:=ho.at (m:=s) (by omega)
  have b2:=ho.at (m:=s + 1) hs
  have hlt:l[s] < l[s + 1]:=by
   rcases ho.lt (Nat.lt_succ_self s) hs with h3 | ⟨-,h3⟩
   ·unfold ltI at h3
    rw [he,lessP_self] at h3
    cases h3
   ·exact h3
  refine .inr ⟨rfl,l[s].toNat,l[s + 1].toNat,by omega,by omega,by omega,by omega,he,fun i' k' h3 h4 h5=>?_⟩
  obtain ⟨t,ht,e1,e2,e3⟩:=key i' k' h3 h4 h5
  have h6:=h2 t ht (by omega) e2
  rcases Int.lt_or_eq_of_le h6 with h7 | h7
  ·exact .inl (by omega)
  ·have:s=t:=by
    rcases Nat.lt_trichotomy s t with h8 | h8 | h8
    ·have:=ho.lt h8 (show t < l.length by omega)
     rw [h7] at this
     rcases this with h9 | ⟨-,h9⟩
     ·unfold ltI at h9;rw [lessP_self] at h9;cases h9
     ·omega
    ·exact h8
    ·have:=ho.lt h8 (show s < l.length by omega)
     rw [h7] at this
     rcases this with h9 | ⟨-,h9⟩
     ·unfold ltI at h9;rw [lessP_self] at h9;cases h9
     ·omega
   subst this
   exact .inr ⟨by omega,by omega⟩

/-- the ranks of the first m of an order, each at its place -/
structure RankTo (p:List Pt) (l:List Int) (m:Nat) (R:List Int):Prop where
 len:R.length=p.length
 val:∀ s (h:s < l.length),s < m → R.getD (l[s]).toNat 0=((rk p (pg p l[s]):Nat):Int)
theorem Ordered.ne {p:List Pt} {l:List Int} (h:Ordered p l) {s t:Nat} (hs:s < t) (ht:t < l.length):l[s]'(by omega) ≠ l[t]:=by
 intro e
 have a:=h.lt hs ht
 rw [e] at a
 rcases a with a | ⟨-,a⟩
 ·unfold ltI at a
  rw [lessP_self] at a
  cases a
 ·omega
theorem RankTo.step {p:List Pt} {l R:List Int} {m:Nat} (h:RankTo p l m R) (ho:Ordered p l) (hm:m < l.length) {r:Int} (hr:r=((rk p (pg p l[m]):Nat):Int)):RankTo p l (m + 1) (R.set (l[m]).toNat r):=by
 have am:=ho.at hm
 refine ⟨by rw [List.length_set];exact h.len,fun s hs hsm=>?_⟩
 have ass:=ho.at hs
 rw [List.getD_eq_getElem?_getD]
 rcases Nat.lt_or_ge s m with k | k
 ·have hne:=ho.ne k hm
  rw [List.getElem?_set_ne (by omega),← List.getD_eq_getElem?_getD]
  exact h.val s hs k
 ·obtain rfl:s=m:=by omega
  rw [List.getElem?_set_self (by have:=h.len;omega)]
  exact hr
theorem RankTo.done {p:List Pt} {l R:List Int} {m:Nat} (h:RankTo p l m R) (ho:Ordered p l) (hm:l.length ≤ m):R=ranksM p:=by
 refine List.ext_getElem (by rw [ranksM_len,h.len]) fun i hi hi'=>?_
 rw [h.len] at hi
 obtain ⟨s,hs,e⟩:=ho.pos (i:=(i:Int)) (by omega)
 have a:=h.val s hs (by omega)
 rw [e,Int.toNat_natCast,List.getD_eq_getElem?_getD,List.getElem?_eq_getElem (by rw [h.len];exact hi)] at a
 rw [ranksM_at p hi,← pg_cast]
 exact a
end Go.Proofs.YtpjaefcmaiimlaaGreat

/-
  Layer 7's memory, upon layer 8's.
-/
namespace Go.Proofs.YtpjaefcmaiimlaaGreat
open Go.RowKit

set_option maxRecDepth 100000 in
theorem less_l (a b:Pt) (w:World):Calls Tryz.prog 101 #[.agg #[.int .i64 a.x,.int .i64 a.y],.agg #[.int .i64 b.x,.int .i64 b.y]] w (Gives (.bool (lessP a b)) w):=by
 have HL:Hid (lessP a b=if a.x=b.x then decide (a.y < b.y) else decide (a.x < b.x)):=rfl
 generalize lessP a b=r at *
 obtain ⟨ax,ay⟩:=a
 obtain ⟨bx,b_y⟩:=b
 dsimp only at *
 go_enter Tryz.func101,Tryz.ntmps101
 by_cases h:ax=bx
 ·subst h
  obtain rfl:r=decide (ay < b_y):=by rw [HL.out,if_pos rfl]
  clear HL
  go_wp2
  go_ret
  exact ⟨rfl,by repeat (first | (with_reducible exact Below.refl _ _) | (with_reducible refine bl_alloc ?_ _) | (with_reducible refine Below.drew ?_) | (with_reducible refine below_drewN' ?_ _) | ((with_reducible refine bl_set ?_ ?_ _);(rotate_left;(dsimp only;omega))))⟩
 ·obtain rfl:r=decide (ax < bx):=by rw [HL.out,if_neg h]
  clear HL
  go_wp2
  go_ret
  exact ⟨rfl,by repeat (first | (with_reducible exact Below.refl _ _) | (with_reducible refine bl_alloc ?_ _) | (with_reducible refine Below.drew ?_) | (with_reducible refine below_drewN' ?_ _) | ((with_reducible refine bl_set ?_ ?_ _);(rotate_left;(dsimp only;omega))))⟩
end Go.Proofs.YtpjaefcmaiimlaaGreat

/-
  Contract of sorts.Merge[int].
-/
namespace Go.Proofs.YtpjaefcmaiimlaaGreat
open Go.RowKit

/-- the function value that is asked: of members it answers lt, and changes nothing that was there -/
def AsksI (f:FuncId) (caps:Array Value) (lt:Int → Int → Bool) (Pm:Int → Prop) (w:World):Prop:=
 ∀ x y W,Pm x → Pm y → Below w.heap.size w W → Calls Tryz.prog f (#[.int .i64 x,.int .i64 y] ++ caps) W (Gives (.bool (lt x y)) W)
theorem AsksI.below {f:FuncId} {caps:Array Value} {lt:Int → Int → Bool} {Pm:Int → Prop} {w w':World} (h:AsksI f caps lt Pm w) (hb:Below w.heap.size w w'):AsksI f caps lt Pm w':=
 fun x y W hx hy hW=>h x y W hx hy (bl_trans hb hW)
set_option maxHeartbeats 8000000 in
set_option maxRecDepth 100000 in
theorem mergeI_l (f:FuncId) (caps:Array Value) (lt:Int → Int → Bool) (Pm:Int → Prop) (A B:List Int) (ada adb:Option Addr) (capa capb:Nat) (w:World) (hcf:∀ args w,(callFunc f args).run Tryz.prog w=.ok (.enter f args) w)
  (HL:AsksI f caps lt Pm w) (hPA:∀ x ∈ A,Pm x) (hPB:∀ x ∈ B,Pm x) (hA:IntRow w ada A) (hB:IntRow w adb B) (hca:A.length ≤ capa) (hcb:B.length ≤ capb) (hna:ada=none → capa=0) (hnb:adb=none → capb=0) (hlen:A.length + B.length ≤ 10000) :
  Calls Tryz.prog 118 #[.slice ada A.length capa,.slice adb B.length capb,.func (.func f) #[] caps] w fun e w'=>∃ v,e=.returned v∧Oi w v (mrgW lt A B) w':=by
 obtain ⟨e0,hi0,hz0,hz1,hz2⟩:=info_parts info_int
 have HLL:=Lib.hid HL
 have HPA:=Lib.hid hPA
 have HPB:=Lib.hid hPB
 have HA0:=Lib.hid hA
 have HB0:=Lib.hid hB
 have HNA:=Lib.hid hna
 have HNB:=Lib.hid hnb
 clear HL hPA hPB hA hB hna hnb
 have wl:wrap64 ((A.length:Int) + (B.length:Int))=((A.length + B.length:Nat):Int):=by unfold wrap64;omega
 have wl2:IntKind.i64.wrap ((A.length:Int) + (B.length:Int))=((A.length + B.length:Nat):Int):=(IntWalk.i64_in _ (by omega)).trans (by omega)
 go_enter Tryz.func118,Tryz.ntmps118
 go_wp2_with (at_make;refine wpList_make_own _ rfl _ _ 43 rfl w.heap.size 3 e0 (.int .i64 0) 1 Tryz.underlying43 hi0 hz0 hz1 _ _ _ (A.length + B.length) rfl rfl (by first | rfl | omega) ?b2 ?b3 (Nat.le_refl _) ?_)
 case b2=>rw [hz2];omega
 case b3=>unfold maxLen;omega
 intro w0 hown0 hgrow0
 have HO0:Hid (Oi w (.slice (some ⟨w.heap.size,0,none⟩) 0 (A.length + B.length)) [] w0):=⟨hown0,(Below.refl _ _).grown hgrow0 (Nat.le_refl _) (fun k h=>by cases h),hgrow0.size⟩
 clear hown0 hgrow0 wl wl2
 go_wp2_with fail
 go_loopw [0,1,7] (fun va vb out wr=>∃ (D A' B':List Int) (ad1:Option Addr) (c1:Nat) (ad2:Option Addr) (c2:Nat),va=.slice ad1 A'.length c1∧vb=.slice ad2 B'.length c2∧A'.length ≤ c1∧B'.length ≤ c2∧(ad1=none → c1=0)∧(ad2=none → c2=0) ∧
   IntRow w ad1 A'∧IntRow w ad2 B'∧(∀ x ∈ A',Pm x)∧(∀ x ∈ B',Pm x)∧D ++ mrgW lt A' B'=mrgW lt A B∧D.length + A'.length + B'.length=A.length + B.length∧Oi w out D wr) (fun va vb _ _=>vlen va + vlen vb)
 case atStart=>exact ⟨[],A,B,_,_,_,_,rfl,rfl,hca,hcb,HNA.out,HNB.out,HA0.out,HB0.out,HPA.out,HPB.out,rfl,by simp,HO0.out⟩
 case round=>
  obtain ⟨D,A',B',ad1,c1,ad2,c2,rfl,rfl,hc1,hc2,hn1,hn2,hA1,hB1,hP1,hP2,hD,hl,hO⟩:=hrel
  have HO:=Lib.hid hO
  have hnx:=hO.hb
  have HPA':=Lib.hid hP1
  have HPB':=Lib.hid hP2
  have HD:=Lib.hid hD
  have HA:=Lib.hid hA1
  have HB:=Lib.hid hB1
  have HN1':=Lib.hid hn1
  have HN2':=Lib.hid hn2
  clear hO hP1 hP2 hD hA1 hB1 hn1 hn2 HA0 HB0 HPA HPB HNA HNB HO0
  rcases A' with _ | ⟨x,xs⟩
  ·go_wp2_with (at_builtin;refine app_ints rfl _ _ rfl rfl HO.out rfl (L:=[]) rfl (intRow_nil _ _) HN1'.out ?x1 ?_)
   case x1=>simp at hl ⊢;omega
   intro v1 w1 hO1
   have HO1:=Lib.hid hO1
   clear hO1 HO
   go_wp2_with (at_builtin;refine app_ints rfl _ _ rfl rfl HO1.out rfl (L:=B') rfl (HB.out.below HO1.out.hb) HN2'.out ?x2 ?_)
   case x2=>simp at hl ⊢;omega
   intro v2 w2 hO2
   have HO2:=Lib.hid hO2
   clear hO2
   go_wp2_with fail
   go_ret
   have e:D ++ B'=mrgW lt A B:=by rw [← HD.out,mrgW_nil]
   exact ⟨_,rfl,(e ▸ HO2.out:_)⟩
  ·rcases B' with _ | ⟨y,ys⟩
   ·go_wp2_with (at_builtin;refine app_ints rfl _ _ rfl rfl HO.out rfl (L:=x :: xs) rfl (HA.out.below HO.out.hb) HN1'.out ?x1 ?_)
    case x1=>simp at hl ⊢;omega
    intro v1 w1 hO1
    have HO1:=Lib.hid hO1
    clear hO1 HO
    go_wp2_with (at_builtin;refine app_ints rfl _ _ rfl rfl HO1.out rfl (L:=[]) rfl (intRow_nil _ _) HN2'.out ?x2 ?_)
    case x2=>simp at hl ⊢;omega
    intro v2 w2 hO2
    have HO2:=Lib.hid hO2
    clear hO2
    go_wp2_with fail
    go_ret
    have e:D ++ x :: xs=mrgW lt A B:=by rw [← HD.out,mrgW_nil2]
    exact ⟨_,rfl,(e ▸ HO2.out:_)⟩
   ·have HCF:=Lib.hid hcf
    obtain ⟨g1,o1,rfl⟩:=HA.out.some (Nat.succ_pos _)
    obtain ⟨g2,o2,rfl⟩:=HB.out.some (Nat.succ_pos _)
    have hx:=HPA'.out x (List.mem_cons_self ..)
    have hy:=HPB'.out y (List.mem_cons_self ..)
    have HLC:=Lib.hid (fun W h=>HLL.out y x W hy hx h)
    have p1:((0:Int) < (((x :: xs).length:Nat):Int))=True:=by simp
    have p2:((0:Int) < (((y :: ys).length:Nat):Int))=True:=by simp
    have HNE:Hid (∀ W,(binOp .neq 130 (.func (.func f) #[] caps) Value.nilFunc).run Tryz.prog W=.ok (.bool true) W):=by intro W;rfl
    cases hlt:lt y x with
    | true=>
     rw [hlt] at HLC
     go_wp2_with fail
     refine wp_region_held_drew (S:=fun W=>Below w.heap.size w W) (by kernel_rfl) ?_ (fun hHeld=>?_)
     ·exact hnx.drew
     have HO1:=Lib.hid HO.out.drew
     clear HO
     revert HO1
     revert hHeld
     generalize World.drew _=W1
     intro hHeld HO1
     refine tk (i:=0) (v:=?_) rfl (Or.inl ⟨by rfl,?_⟩) ?_
     rotate_left;· rintro _ -;go_simp;all_goals (with_reducible rfl)
     try simp only [Act.put,x2,x4,x5,x6,x7]
     refine tk (i:=1) (v:=?_) rfl (Or.inl ⟨by rfl,?_⟩) ?_
     rotate_left
     ·intro Wq hSw
      have hne:=HNE.out Wq
      clear hSw
      go_simp;all_goals (with_reducible rfl)
     try simp only [Act.put,x2,x3,x4,x5,x6,x7]
     refine tk (i:=2) (v:=?_) rfl (Or.inl ⟨by rfl,?_⟩) ?_
     rotate_left;· rintro _ -;go_simp;all_goals (with_reducible rfl)
     try simp only [Act.put,x2,x3,x4,x5,x6,x7]
     refine tk (i:=3) (v:=?_) rfl (Or.inl ⟨by rfl,?_⟩) ?_
     rotate_left;· rintro _ -;go_simp;all_goals (with_reducible rfl)
     try simp only [Act.put,x2,x3,x4,x5,x6,x7]
     refine tk (i:=4) (v:=?_) rfl (Or.inl ⟨by rfl,?_⟩) ?_
     rotate_left;· rintro _ -;go_simp;all_goals (with_reducible rfl)
     try simp only [Act.put,x2,x3,x4,x5,x6,x7]
     refine tk (i:=5) (v:=?_) rfl (Or.inl ⟨by rfl,?_⟩) ?_
     rotate_left;· rintro _ -;go_simp;all_goals (with_reducible rfl)
     try simp only [Act.put,x2,x3,x4,x5,x6,x7]
     refine tk (i:=6) (v:=?_) rfl (Or.inl ⟨by rfl,?_⟩) ?_
     rotate_left
     ·intro Wq hSw
      have k0:=intRow_at (HB.out.below hSw) (i:=0) (Nat.succ_pos _) rfl
      simp only [Nat.add_zero,List.getElem_cons_zero] at k0
      clear hSw
      go_simp;all_goals (with_reducible rfl)
     try simp only [Act.put,x2,x3,x4,x5,x6,x7]
     refine tk (i:=7) (v:=?_) rfl (Or.inl ⟨by rfl,?_⟩) ?_
     rotate_left;· rintro _ -;go_simp;all_goals (with_reducible rfl)
     try simp only [Act.put,x2,x3,x4,x5,x6,x7]
     refine tk (i:=8) (v:=?_) rfl (Or.inl ⟨by rfl,?_⟩) ?_
     rotate_left;· rintro _ -;go_simp;all_goals (with_reducible rfl)
     try simp only [Act.put,x2,x3,x4,x5,x6,x7]
     refine tk (i:=9) (v:=?_) rfl (Or.inl ⟨by rfl,?_⟩) ?_
     rotate_left
     ·intro Wq hSw
      have k0:=intRow_at (HA.out.below hSw) (i:=0) (Nat.succ_pos _) rfl
      simp only [Nat.add_zero,List.getElem_cons_zero] at k0
      clear hSw
      go_simp;all_goals (with_reducible rfl)
     try simp only [Act.put,x2,x3,x4,x5,x6,x7]
     refine r1 (i:=10) rfl (fun K hK=>?_)
     go_simp
     with_reducible refine (HLC.out _ hHeld).mono ?_
     rintro e w1 ⟨rfl,hb1⟩
     go_wp2_with fail
     refine hK.out _ _ (bl_trans hHeld hb1) (fun hHeld2=>?_)
     replace HO1:=Lib.hid (HO1.out.below hb1)
     clear hK K hHeld
     have hHeld:=hHeld2
     clear hHeld2
     try simp only [Act.put,x2,x3,x4,x5,x6,x7]
     refine tk (i:=11) (v:=?_) rfl (Or.inl ⟨by rfl,?_⟩) ?_
     rotate_left;· rintro _ -;go_simp;all_goals (with_reducible rfl)
     try simp only [Act.put,x2,x3,x4,x5,x6,x7]
     refine wpAnyH_done (by kernel_rfl) ?_ _
     have HN1:=hHeld
     clear hHeld
     go_wp2
     refine wp_region_held_drew (S:=fun W=>Below w.heap.size w W) (by kernel_rfl) ?_ (fun hHeld=>?_)
     ·exact HN1.drew
     have HO1:=Lib.hid HO1.out.drew
     revert HO1
     revert hHeld
     generalize World.drew _=W1
     intro hHeld HO1
     refine tk (i:=0) (v:=?_) rfl (Or.inl ⟨by rfl,?_⟩) ?_
     rotate_left;· rintro _ -;go_simp;all_goals (with_reducible rfl)
     try simp only [Act.put,x2,x4,x5,x6,x7]
     refine tk (i:=1) (v:=?_) rfl (Or.inl ⟨by rfl,?_⟩) ?_
     rotate_left;· rintro _ -;go_simp;all_goals (with_reducible rfl)
     try simp only [Act.put,x2,x3,x4,x5,x6,x7]
     refine tk (i:=2) (v:=?_) rfl (Or.inl ⟨by rfl,?_⟩) ?_
     rotate_left;· rintro _ -;go_simp;all_goals (with_reducible rfl)
     try simp only [Act.put,x2,x3,x4,x5,x6,x7]
     refine tk (i:=3) (v:=?_) rfl (Or.inl ⟨by rfl,?_⟩) ?_
     rotate_left
     ·intro Wq hSw
      have k0:=intRow_at (HB.out.below hSw) (i:=0) (Nat.succ_pos _) rfl
      simp only [Nat.add_zero,List.getElem_cons_zero] at k0
      clear hSw
      go_simp;all_goals (with_reducible rfl)
     try simp only [Act.put,x2,x3,x4,x5,x6,x7]
     refine tk (i:=6) (v:=?_) rfl (Or.inl ⟨by rfl,?_⟩) ?_
     rotate_left;· rintro _ -;go_simp;all_goals (with_reducible rfl)
     try simp only [Act.put,x2,x3,x4,x5,x6,x7]
     refine tk (i:=7) (v:=?_) rfl (Or.inl ⟨by rfl,?_⟩) ?_
     rotate_left
     ·intro Wq hSw
      have p3:((1:Int) ≤ (((ys).length:Nat):Int) + 1)=True:=eq_true (by omega)
      clear hSw
      go_simp;all_goals (with_reducible rfl)
     try simp only [Act.put,x2,x3,x4,x5,x6,x7]
     refine r1 (i:=4) rfl (fun K hK=>?_)
     go_simp
     refine hK.out _ _ (bl_alloc hHeld _) (fun hHeld2=>?_)
     clear hK K hHeld
     have hHeld:=hHeld2
     clear hHeld2
     try simp only [Act.put,x2,x3,x4,x5,x6,x7]
     refine r1 (i:=5) rfl (fun K hK=>?_)
     refine app_ints_wp (L:=[y]) (.tmp 34) (.tmp 38) rfl rfl (HO1.out.alloc _) rfl rfl (intRow_new _ _ _) (fun h=>by cases h) ?lim (fun v2 w2 hO2=>?_)
     case lim=>simp at hl ⊢;omega
     have HO2:=Lib.hid hO2
     clear hO2
     refine hK.out _ _ HO2.out.hb (fun hHeld2=>?_)
     clear hK K hHeld
     have hHeld:=hHeld2
     clear hHeld2
     try simp only [Act.put,x2,x3,x4,x5,x6,x7]
     refine tk (i:=8) (v:=?_) rfl (Or.inl ⟨by rfl,?_⟩) ?_
     rotate_left;· rintro _ -;go_simp;all_goals (with_reducible rfl)
     try simp only [Act.put,x2,x3,x4,x5,x6,x7]
     refine tk (i:=9) (v:=?_) rfl (Or.inl ⟨by rfl,?_⟩) ?_
     rotate_left;· rintro _ -;go_simp;all_goals (with_reducible rfl)
     try simp only [Act.put,x2,x3,x4,x5,x6,x7]
     refine wpAnyH_done (by kernel_rfl) ?_ _
     go_wp2_with fail
     have hc1':=hc1
     simp only [List.length_cons] at hc1 hc2 hl
     refine ⟨⟨D ++ [y],x :: xs,ys,_,_,_,_,rfl,rfl,by simp;omega,by omega,(fun h=>by cases h),(fun h=>by split at h <;> cases h),HA.out,(HB.out.drop 1 (fun g o e h=>by cases e;simp at h;rw [if_neg (by omega)])),HPA'.out,fun z hz=>HPB'.out z (List.mem_cons_of_mem _ hz),?_,by simp;omega,HO2.out⟩,by simp only [vlen,List.length_cons];omega⟩
     rw [← HD.out,mrgW_b hlt,List.append_assoc]
     rfl
    | false=>
     rw [hlt] at HLC
     go_wp2_with fail
     refine wp_region_held_drew (S:=fun W=>Below w.heap.size w W) (by kernel_rfl) ?_ (fun hHeld=>?_)
     ·exact hnx.drew
     have HO1:=Lib.hid HO.out.drew
     clear HO
     revert HO1
     revert hHeld
     generalize World.drew _=W1
     intro hHeld HO1
     refine tk (i:=0) (v:=?_) rfl (Or.inl ⟨by rfl,?_⟩) ?_
     rotate_left;· rintro _ -;go_simp;all_goals (with_reducible rfl)
     try simp only [Act.put,x2,x4,x5,x6,x7]
     refine tk (i:=1) (v:=?_) rfl (Or.inl ⟨by rfl,?_⟩) ?_
     rotate_left
     ·intro Wq hSw
      have hne:=HNE.out Wq
      clear hSw
      go_simp;all_goals (with_reducible rfl)
     try simp only [Act.put,x2,x3,x4,x5,x6,x7]
     refine tk (i:=2) (v:=?_) rfl (Or.inl ⟨by rfl,?_⟩) ?_
     rotate_left;· rintro _ -;go_simp;all_goals (with_reducible rfl)
     try simp only [Act.put,x2,x3,x4,x5,x6,x7]
     refine tk (i:=3) (v:=?_) rfl (Or.inl ⟨by rfl,?_⟩) ?_
     rotate_left;· rintro _ -;go_simp;all_goals (with_reducible rfl)
     try simp only [Act.put,x2,x3,x4,x5,x6,x7]
     refine tk (i:=4) (v:=?_) rfl (Or.inl ⟨by rfl,?_⟩) ?_
     rotate_left;· rintro _ -;go_simp;all_goals (with_reducible rfl)
     try simp only [Act.put,x2,x3,x4,x5,x6,x7]
     refine tk (i:=5) (v:=?_) rfl (Or.inl ⟨by rfl,?_⟩) ?_
     rotate_left;· rintro _ -;go_simp;all_goals (with_reducible rfl)
     try simp only [Act.put,x2,x3,x4,x5,x6,x7]
     refine tk (i:=6) (v:=?_) rfl (Or.inl ⟨by rfl,?_⟩) ?_
     rotate_left
     ·intro Wq hSw
      have k0:=intRow_at (HB.out.below hSw) (i:=0) (Nat.succ_pos _) rfl
      simp only [Nat.add_zero,List.getElem_cons_zero] at k0
      clear hSw
      go_simp;all_goals (with_reducible rfl)
     try simp only [Act.put,x2,x3,x4,x5,x6,x7]
     refine tk (i:=7) (v:=?_) rfl (Or.inl ⟨by rfl,?_⟩) ?_
     rotate_left;· rintro _ -;go_simp;all_goals (with_reducible rfl)
     try simp only [Act.put,x2,x3,x4,x5,x6,x7]
     refine tk (i:=8) (v:=?_) rfl (Or.inl ⟨by rfl,?_⟩) ?_
     rotate_left;· rintro _ -;go_simp;all_goals (with_reducible rfl)
     try simp only [Act.put,x2,x3,x4,x5,x6,x7]
     refine tk (i:=9) (v:=?_) rfl (Or.inl ⟨by rfl,?_⟩) ?_
     rotate_left
     ·intro Wq hSw
      have k0:=intRow_at (HA.out.below hSw) (i:=0) (Nat.succ_pos _) rfl
      simp only [Nat.add_zero,List.getElem_cons_zero] at k0
      clear hSw
      go_simp;all_goals (with_reducible rfl)
     try simp only [Act.put,x2,x3,x4,x5,x6,x7]
     refine r1 (i:=10) rfl (fun K hK=>?_)
     go_simp
     with_reducible refine (HLC.out _ hHeld).mono ?_
     rintro e w1 ⟨rfl,hb1⟩
     go_wp2_with fail
     refine hK.out _ _ (bl_trans hHeld hb1) (fun hHeld2=>?_)
     replace HO1:=Lib.hid (HO1.out.below hb1)
     clear hK K hHeld
     have hHeld:=hHeld2
     clear hHeld2
     try simp only [Act.put,x2,x3,x4,x5,x6,x7]
     refine tk (i:=11) (v:=?_) rfl (Or.inl ⟨by rfl,?_⟩) ?_
     rotate_left;· rintro _ -;go_simp;all_goals (with_reducible rfl)
     try simp only [Act.put,x2,x3,x4,x5,x6,x7]
     refine wpAnyH_done (by kernel_rfl) ?_ _
     have HN1:=hHeld
     clear hHeld
     go_wp2
     refine wp_region_held_drew (S:=fun W=>Below w.heap.size w W) (by kernel_rfl) ?_ (fun hHeld=>?_)
     ·exact HN1.drew
     have HO1:=Lib.hid HO1.out.drew
     revert HO1
     revert hHeld
     generalize World.drew _=W1
     intro hHeld HO1
     refine tk (i:=0) (v:=?_) rfl (Or.inl ⟨by rfl,?_⟩) ?_
     rotate_left;· rintro _ -;go_simp;all_goals (with_reducible rfl)
     try simp only [Act.put,x2,x4,x5,x6,x7]
     refine tk (i:=1) (v:=?_) rfl (Or.inl ⟨by rfl,?_⟩) ?_
     rotate_left;· rintro _ -;go_simp;all_goals (with_reducible rfl)
     try simp only [Act.put,x2,x3,x4,x5,x6,x7]
     refine tk (i:=2) (v:=?_) rfl (Or.inl ⟨by rfl,?_⟩) ?_
     rotate_left;· rintro _ -;go_simp;all_goals (with_reducible rfl)
     try simp only [Act.put,x2,x3,x4,x5,x6,x7]
     refine tk (i:=3) (v:=?_) rfl (Or.inl ⟨by rfl,?_⟩) ?_
     rotate_left
     ·intro Wq hSw
      have k0:=intRow_at (HA.out.below hSw) (i:=0) (Nat.succ_pos _) rfl
      simp only [Nat.add_zero,List.getElem_cons_zero] at k0
      clear hSw
      go_simp;all_goals (with_reducible rfl)
     try simp only [Act.put,x2,x3,x4,x5,x6,x7]
     refine tk (i:=6) (v:=?_) rfl (Or.inl ⟨by rfl,?_⟩) ?_
     rotate_left;· rintro _ -;go_simp;all_goals (with_reducible rfl)
     try simp only [Act.put,x2,x3,x4,x5,x6,x7]
     refine tk (i:=7) (v:=?_) rfl (Or.inl ⟨by rfl,?_⟩) ?_
     rotate_left
     ·intro Wq hSw
      have p3:((1:Int) ≤ (((xs).length:Nat):Int) + 1)=True:=eq_true (by omega)
      clear hSw
      go_simp;all_goals (with_reducible rfl)
     try simp only [Act.put,x2,x3,x4,x5,x6,x7]
     refine r1 (i:=4) rfl (fun K hK=>?_)
     go_simp
     refine hK.out _ _ (bl_alloc hHeld _) (fun hHeld2=>?_)
     clear hK K hHeld
     have hHeld:=hHeld2
     clear hHeld2
     try simp only [Act.put,x2,x3,x4,x5,x6,x7]
     refine r1 (i:=5) rfl (fun K hK=>?_)
     refine app_ints_wp (L:=[x]) (.tmp 42) (.tmp 46) rfl rfl (HO1.out.alloc _) rfl rfl (intRow_new _ _ _) (fun h=>by cases h) ?lim (fun v2 w2 hO2=>?_)
     case lim=>simp at hl ⊢;omega
     have HO2:=Lib.hid hO2
     clear hO2
     refine hK.out _ _ HO2.out.hb (fun hHeld2=>?_)
     clear hK K hHeld
     have hHeld:=hHeld2
     clear hHeld2
     try simp only [Act.put,x2,x3,x4,x5,x6,x7]
     refine tk (i:=8) (v:=?_) rfl (Or.inl ⟨by rfl,?_⟩) ?_
     rotate_left;· rintro _ -;go_simp;all_goals (with_reducible rfl)
     try simp only [Act.put,x2,x3,x4,x5,x6,x7]
     refine tk (i:=9) (v:=?_) rfl (Or.inl ⟨by rfl,?_⟩) ?_
     rotate_left;· rintro _ -;go_simp;all_goals (with_reducible rfl)
     try simp only [Act.put,x2,x3,x4,x5,x6]
     refine wpAnyH_done (by kernel_rfl) ?_ _
     go_wp2_with fail
     have hc1':=hc1
     simp only [List.length_cons] at hc1 hc2 hl
     refine ⟨⟨D ++ [x],xs,y :: ys,_,_,_,_,rfl,rfl,by omega,by simp;omega,(fun h=>by split at h <;> cases h),(fun h=>by cases h),(HA.out.drop 1 (fun g o e h=>by cases e;simp at h;rw [if_neg (by omega)])),HB.out,fun z hz=>HPA'.out z (List.mem_cons_of_mem _ hz),HPB'.out,?_,by simp;omega,HO2.out⟩,by simp only [vlen,List.length_cons];omega⟩
     rw [← HD.out,mrgW_a hlt,List.append_assoc]
     rfl
theorem mergeI_n (f:FuncId) (caps:Array Value) (lt:Int → Int → Bool) (Pm:Int → Prop) (A B:List Int) (ada adb:Option Addr) (capa capb na nb:Nat) (w:World) (hcf:∀ args w,(callFunc f args).run Tryz.prog w=.ok (.enter f args) w)
  (HL:AsksI f caps lt Pm w) (hPA:∀ x ∈ A,Pm x) (hPB:∀ x ∈ B,Pm x) (hA:IntRow w ada A) (hB:IntRow w adb B) (ea:na=A.length) (eb:nb=B.length) (hca:A.length ≤ capa) (hcb:B.length ≤ capb) (hna:ada=none → capa=0) (hnb:adb=none → capb=0) (hlen:A.length + B.length ≤ 10000) :
  Calls Tryz.prog 118 #[.slice ada na capa,.slice adb nb capb,.func (.func f) #[] caps] w fun e w'=>∃ v,e=.returned v∧Oi w v (mrgW lt A B) w':=by
 subst ea eb
 exact mergeI_l f caps lt Pm A B ada adb capa capb w hcf HL hPA hPB hA hB hca hcb hna hnb hlen
end Go.Proofs.YtpjaefcmaiimlaaGreat

/-
  Contract of sorts.Sort[int].
-/
namespace Go.Proofs.YtpjaefcmaiimlaaGreat
open Go.RowKit

set_option maxHeartbeats 8000000 in
set_option maxRecDepth 100000 in
theorem sortI_l (f:FuncId) (caps:Array Value) (lt:Int → Int → Bool) (Pm:Int → Prop) (hcf:∀ args w,(callFunc f args).run Tryz.prog w=.ok (.enter f args) w) (L:List Int) :
  ∀ (ad:Option Addr) (cap:Nat) (w:World) (n:Nat),AsksI f caps lt Pm w → (∀ x ∈ L,Pm x) → IntRow w ad L → n=L.length → L.length ≤ cap → (ad=none → cap=0) → L.length ≤ 10000 →
  Calls Tryz.prog 99 #[.slice ad n cap,.func (.func f) #[] caps] w fun e w'=>∃ v,e=.returned v∧Oi w v (msort lt L) w':=by
 induction L using msort_ind with
 | h1 L hl=>
  rintro ad cap w _ HL hP hA rfl hca hn hlen
  have HA:=Lib.hid hA
  have HN:=Lib.hid hn
  clear HL hP hA hn
  have p1:(((L.length:Nat):Int) < 2)=True:=eq_true (by omega)
  go_enter Tryz.func99,Tryz.ntmps99
  go_wp2_with (at_builtin;refine app_ints rfl _ _ rfl rfl (oi_nil w) rfl (L:=L) rfl HA.out HN.out ?x1 ?_)
  case x1=>simp;omega
  intro v1 w1 hO1
  have HO1:=Lib.hid hO1
  clear hO1
  go_wp2_with fail
  go_ret
  rw [msort_small lt hl]
  exact ⟨_,rfl,HO1.out⟩
 | h2 L hl ih1 ih2=>
  rintro ad cap w _ HL hP hA rfl hca hn hlen
  obtain ⟨g,o,rfl⟩:=hA.some (by omega)
  have HA:=Lib.hid hA
  have HP:=Lib.hid hP
  have HLL:=Lib.hid HL
  have IH1:=Lib.hid ih1
  have IH2:=Lib.hid ih2
  clear HL hP hA hn ih1 ih2
  have p1:(((L.length:Nat):Int) < 2)=False:=eq_false (by omega)
  have p2:Int.tdiv ((L.length:Nat):Int) 2=((L.length / 2:Nat):Int):=rfl
  have p3:IntKind.i64.wrap ((L.length / 2:Nat):Int)=((L.length / 2:Nat):Int):=IntWalk.i64_in _ (by omega)
  go_enter Tryz.func99,Tryz.ntmps99
  go_wp2_with fail
  have ek:((L.length:Nat):Int) / 2=((L.length / 2:Nat):Int):=by omega
  simp only [ek]
  have hk1:1 ≤ L.length / 2:=by omega
  have hk2:L.length / 2 ≤ L.length:=by omega
  have hk3:L.length / 2 < L.length:=by omega
  have lt1:=msort_len lt (L.take (L.length / 2))
  have ld1:=msort_len lt (L.drop (L.length / 2))
  have HE:=Lib.hid (msort_half lt hl)
  rw [List.length_take,Nat.min_eq_left hk2] at lt1
  rw [List.length_drop] at ld1
  clear p1 p2 p3 ek hl
  generalize L.length / 2=k at *
  have c1:((k:Int) ≤ ((L.length:Nat):Int))=True:=eq_true (by omega)
  have c2:((k:Int) ≤ (cap:Int))=True:=eq_true (by omega)
  have c4:(cap=k)=False:=eq_false (by omega)
  have c3:((0:Int) ≤ (k:Int))=True:=eq_true (by omega)
  refine wp_region_held_drew (S:=fun W=>Below w.heap.size w W) (by kernel_rfl) ?_ (fun hHeld=>?_)
  ·exact bel_drew w
  revert hHeld
  generalize World.drew _=W1
  intro hHeld 
  refine tk (i:=0) (v:=?_) rfl (Or.inl ⟨by rfl,?_⟩) ?_
  rotate_left;· rintro _ -;go_simp;all_goals (with_reducible rfl)
  try simp only [Act.put,x2,x4,x5,x6,x7]
  refine tk (i:=1) (v:=?_) rfl (Or.inl ⟨by rfl,?_⟩) ?_
  rotate_left;· rintro _ -;go_simp;all_goals (with_reducible rfl)
  try simp only [Act.put,x2,x3,x4,x5,x6,x7]
  refine tk (i:=2) (v:=?_) rfl (Or.inl ⟨by rfl,?_⟩) ?_
  rotate_left;· rintro _ -;go_simp;all_goals (with_reducible rfl)
  try simp only [Act.put,x2,x3,x4,x5,x6,x7]
  refine tk (i:=3) (v:=?_) rfl (Or.inl ⟨by rfl,?_⟩) ?_
  rotate_left;· rintro _ -;go_simp;all_goals (with_reducible rfl)
  try simp only [Act.put,x2,x3,x4,x5,x6,x7]
  refine tk (i:=5) (v:=?_) rfl (Or.inl ⟨by rfl,?_⟩) ?_
  rotate_left;· rintro _ -;go_simp;all_goals (with_reducible rfl)
  try simp only [Act.put,x2,x3,x4,x5,x6,x7]
  refine tk (i:=6) (v:=?_) rfl (Or.inl ⟨by rfl,?_⟩) ?_
  rotate_left;· rintro _ -;go_simp;all_goals (with_reducible rfl)
  try simp only [Act.put,x2,x3,x4,x5,x6,x7]
  refine tk (i:=7) (v:=?_) rfl (Or.inl ⟨by rfl,?_⟩) ?_
  rotate_left;· rintro _ -;go_simp;all_goals (with_reducible rfl)
  try simp only [Act.put,x2,x3,x4,x5,x6,x7]
  refine tk (i:=8) (v:=?_) rfl (Or.inl ⟨by rfl,?_⟩) ?_
  rotate_left;· rintro _ -;go_simp;all_goals (with_reducible rfl)
  try simp only [Act.put,x2,x3,x4,x5,x6,x7]
  refine tk (i:=10) (v:=?_) rfl (Or.inl ⟨by rfl,?_⟩) ?_
  rotate_left;· rintro _ -;go_simp;all_goals (with_reducible rfl)
  try simp only [Act.put,x2,x3,x4,x5,x6,x7]
  refine r1 (i:=4) rfl (fun K hK=>?_)
  go_simp
  have hc1:=IH1.out _ cap _ k (HLL.out.below hHeld) (fun z hz=>HP.out z (List.mem_of_mem_take hz)) ((HA.out.take k).below hHeld) (by rw [List.length_take];omega) (by rw [List.length_take];omega) (fun h=>by cases h) (by rw [List.length_take];omega)
  with_reducible refine hc1.mono ?_
  clear hc1
  rintro e w1 ⟨v1,rfl,hO1⟩
  have hb1:=hO1.hb
  have HO1:=Lib.hid (hO1.base hHeld)
  clear hO1
  go_wp2_with fail
  refine hK.out _ _ (bl_trans hHeld hb1) (fun hHeld2=>?_)
  clear hK K hHeld
  have hHeld:=hHeld2
  clear hHeld2
  try simp only [Act.put,x2,x3,x4,x5,x6,x7]
  refine r1 (i:=9) rfl (fun K hK=>?_)
  go_simp
  have hc2:=IH2.out (some ⟨g,o + k,none⟩) (cap - k) _ (L.length - k) (HLL.out.below hHeld) (fun z hz=>HP.out z (List.mem_of_mem_drop hz)) ((HA.out.drop k (fun g o h _=>by cases h;rfl)).below hHeld) (by rw [List.length_drop]) (by rw [List.length_drop];omega) (fun h=>by cases h) (by rw [List.length_drop];omega)
  with_reducible refine hc2.mono ?_
  clear hc2
  rintro e w2 ⟨v2,rfl,hO2⟩
  have hb1:=hO2.hb
  have HO2:=Lib.hid (hO2.base hHeld)
  clear hO2
  go_wp2_with fail
  refine hK.out _ _ (bl_trans hHeld hb1) (fun hHeld2=>?_)
  replace HO1:=Lib.hid (HO1.out.below hb1)
  clear hK K hHeld
  have hHeld:=hHeld2
  clear hHeld2
  try simp only [Act.put,x2,x3,x4,x5,x6,x7]
  refine r1 (i:=11) rfl (fun K hK=>?_)
  obtain ⟨ad1,cp1,rfl,hcp1,hr1,hn1⟩:=HO1.out.slice
  obtain ⟨ad2,cp2,rfl,hcp2,hr2,hn2⟩:=HO2.out.slice
  have hc3:=mergeI_n f caps lt Pm (msort lt (L.take k)) (msort lt (L.drop k)) ad1 ad2 cp1 cp2 k (L.length - k) _ hcf (HLL.out.below hHeld) (fun z hz=>HP.out z (List.mem_of_mem_take ((msort_perm _ _).mem_iff.1 hz))) (fun z hz=>HP.out z (List.mem_of_mem_drop ((msort_perm _ _).mem_iff.1 hz))) (hr1.below (Below.refl _ _)) (hr2.below (Below.refl _ _)) lt1.symm ld1.symm hcp1 hcp2 hn1 hn2 (by omega)
  have HC3:=Lib.hid hc3
  clear hc3 hr1 hr2 hn1 hn2
  rw [lt1,ld1] at *
  go_simp
  with_reducible refine HC3.out.mono ?_
  rintro e w3 ⟨v3,rfl,hO3⟩
  have hb1:=hO3.hb
  have HO3:=Lib.hid (hO3.base hHeld)
  clear hO3
  go_wp2_with fail
  refine hK.out _ _ (bl_trans hHeld hb1) (fun hHeld2=>?_)
  clear hK K hHeld
  have hHeld:=hHeld2
  clear hHeld2
  try simp only [Act.put,x2,x3,x4,x5,x6,x7]
  refine tk (i:=12) (v:=?_) rfl (Or.inl ⟨by rfl,?_⟩) ?_
  rotate_left;· rintro _ -;go_simp;all_goals (with_reducible rfl)
  try simp only [Act.put,x2,x3,x4,x5,x6,x7]
  refine wpAnyH_done (by kernel_rfl) ?_ _
  go_wp2_with fail
  go_ret
  rw [HE.out]
  exact ⟨_,rfl,HO3.out⟩
end Go.Proofs.YtpjaefcmaiimlaaGreat

/-
  Contracts of sorts.Order and of the function value that it asks.
-/
namespace Go.Proofs.YtpjaefcmaiimlaaGreat
open Go.RowKit

set_option maxHeartbeats 8000000 in
set_option maxRecDepth 100000 in
theorem askOrder (p:List Pt) (ad:Option Addr) (cap b:Nat) (W0:World) (hc:W0.cell? ⟨b,0,none⟩=some (.slice ad p.length cap)) (hP:PtRow W0 ad p):AsksI 100 #[.pointer (some ⟨b,0,none⟩)] (ltI p) (fun i=>0 ≤ i∧i < p.length) W0:=by
 rintro x y W ⟨hx0,hx⟩ ⟨hy0,hy⟩ hW
 obtain ⟨i,rfl⟩:=Int.eq_ofNat_of_zero_le hx0
 obtain ⟨k,rfl⟩:=Int.eq_ofNat_of_zero_le hy0
 have hi:i < p.length:=by omega
 have hk:k < p.length:=by omega
 obtain ⟨g,o,rfl⟩:=hP.some (by omega)
 have HC:=Lib.hid ((hW.cell (cell_lt hc)).trans hc)
 have HP:=Lib.hid (hP.below hW)
 have HL:=Lib.hid (show ltI p (i:Int) (k:Int)=lessP (pget p i) (pget p k) from rfl)
 clear hc hP hW hx0 hx hy0 hy
 generalize ltI p (i:Int) (k:Int)=r at *
 have c1:((0:Int) ≤ (i:Int))=True:=eq_true (by omega)
 have c2:((0:Int) ≤ (k:Int))=True:=eq_true (by omega)
 go_enter Tryz.func100,Tryz.ntmps100
 go_wp2_with fail
 refine wp_region_held_drew (S:=fun V=>Below W.heap.size W V) (by kernel_rfl) ?_ (fun hHeld=>?_)
 ·exact bel_drew W
 revert hHeld
 generalize World.drew _=W1
 intro hHeld 
 refine tk (i:=0) (v:=?_) rfl (Or.inl ⟨by rfl,?_⟩) ?_
 rotate_left
 ·intro Wq hSw
  have k0:=(hSw.cell (cell_lt HC.out)).trans HC.out
  clear hSw
  go_simp;all_goals (with_reducible rfl)
 try simp only [Act.put,x2,x4,x5,x6,x7]
 refine tk (i:=1) (v:=?_) rfl (Or.inl ⟨by rfl,?_⟩) ?_
 rotate_left;· rintro _ -;go_simp;all_goals (with_reducible rfl)
 try simp only [Act.put,x2,x3,x4,x5,x6,x7]
 refine tk (i:=2) (v:=?_) rfl (Or.inl ⟨by rfl,?_⟩) ?_
 rotate_left
 ·intro Wq hSw
  have b1:((i:Int) < (p.length:Int))=True:=eq_true (by omega)
  clear hSw
  go_simp;all_goals (with_reducible rfl)
 try simp only [Act.put,x2,x3,x4,x5,x6,x7]
 refine tk (i:=3) (v:=?_) rfl (Or.inl ⟨by rfl,?_⟩) ?_
 rotate_left
 ·intro Wq hSw
  obtain ⟨k0,k1⟩:=ptRow_at (HP.out.below hSw) hi (t:=pget p i) rfl
  clear hSw
  go_simp;all_goals (with_reducible rfl)
 try simp only [Act.put,x2,x3,x4,x5,x6,x7]
 refine tk (i:=4) (v:=?_) rfl (Or.inl ⟨by rfl,?_⟩) ?_
 rotate_left
 ·intro Wq hSw
  have k0:=(hSw.cell (cell_lt HC.out)).trans HC.out
  clear hSw
  go_simp;all_goals (with_reducible rfl)
 try simp only [Act.put,x2,x3,x4,x5,x6,x7]
 refine tk (i:=5) (v:=?_) rfl (Or.inl ⟨by rfl,?_⟩) ?_
 rotate_left;· rintro _ -;go_simp;all_goals (with_reducible rfl)
 try simp only [Act.put,x2,x3,x4,x5,x6,x7]
 refine tk (i:=6) (v:=?_) rfl (Or.inl ⟨by rfl,?_⟩) ?_
 rotate_left
 ·intro Wq hSw
  have b1:((k:Int) < (p.length:Int))=True:=eq_true (by omega)
  clear hSw
  go_simp;all_goals (with_reducible rfl)
 try simp only [Act.put,x2,x3,x4,x5,x6,x7]
 refine tk (i:=7) (v:=?_) rfl (Or.inl ⟨by rfl,?_⟩) ?_
 rotate_left
 ·intro Wq hSw
  obtain ⟨k0,k1⟩:=ptRow_at (HP.out.below hSw) hk (t:=pget p k) rfl
  clear hSw
  go_simp;all_goals (with_reducible rfl)
 try simp only [Act.put,x2,x3,x4,x5,x6,x7]
 refine r1 (i:=8) rfl (fun K hK=>?_)
 go_simp
 (with_reducible refine (less_l (pget p i) (pget p k) _).mono ?_)
 rintro e w1 ⟨rfl,hb1⟩
 go_wp2_with fail
 refine hK.out _ _ (bl_trans hHeld hb1) (fun hHeld2=>?_)
 clear hK K hHeld
 have hHeld:=hHeld2
 clear hHeld2
 try simp only [Act.put,x2,x3,x4,x5,x6,x7]
 refine tk (i:=9) (v:=?_) rfl (Or.inl ⟨by rfl,?_⟩) ?_
 rotate_left;· rintro _ -;go_simp;all_goals (with_reducible rfl)
 try simp only [Act.put,x2,x3,x4,x5,x6,x7]
 refine wpAnyH_done (by kernel_rfl) ?_ _
 go_wp2_with fail
 go_ret
 rw [HL.out]
 exact ⟨rfl,hHeld⟩
set_option maxHeartbeats 8000000 in
set_option maxRecDepth 100000 in
theorem order_l (p:List Pt) (ad:Option Addr) (cap:Nat) (w:World) (hP:PtRow w ad p) (_:p.length ≤ cap) (hlen:p.length ≤ 10000) :
  Calls Tryz.prog 76 #[.slice ad p.length cap] w fun e w'=>∃ v,e=.returned v∧Oi w v (msort (ltI p) (idx p.length)) w':=by
 obtain ⟨e0,hi0,hz0,hz1,hz2⟩:=info_parts info_int
 have HP:=Lib.hid hP
 clear hP
 go_enter Tryz.func76,Tryz.ntmps76
 go_wp2_with (at_make;refine wpList_make_full _ rfl _ _ 43 rfl (w.heap.size + 1) 3 e0 (.int .i64 0) 1 Tryz.underlying43 hi0 hz0 hz1 _ _ _ _ p.length rfl rfl rfl rfl ?b2 ?b3 (by simp) ?_)
 case b2=>rw [hz2];omega
 case b3=>unfold maxLen;omega
 intro w0 hown0 hgrow0
 have HB1:=Lib.hid (bl_one w (.cells #[.slice ad p.length cap] 22))
 have HC1:=Lib.hid (show (w.alloc (.cells #[.slice ad p.length cap] 22)).cell? ⟨w.heap.size,0,none⟩=some (.slice ad p.length cap) from by simp [go_sem])
 have HO0:=Lib.hid (oi_made (b:=w.heap.size + 1) (by simp) hown0 hgrow0)
 clear hown0 hgrow0
 generalize w.alloc (.cells #[.slice ad p.length cap] 22)=W1 at *
 generalize w.heap.size + 1=g1 at *
 go_wp2_with fail
 go_loopw [10] (fun iv W=>∃ k:Nat,k ≤ p.length∧iv=.int .i64 k∧Oi W1 (.slice (some ⟨g1,0,none⟩) p.length p.length) (idx k ++ List.replicate (p.length - k) 0) W) (fun iv _=>p.length - (intOf iv).toNat)
 case atStart=>exact ⟨0,Nat.zero_le _,rfl,HO0.out⟩
 case round=>
  obtain ⟨k,hk,rfl,hO⟩:=hrel
  have HO:=Lib.hid hO
  clear hO HO0
  by_cases hlt:k < p.length
  ·have b1:((k:Int) < (p.length:Int))=True:=eq_true (by omega)
   have c1:((0:Int) ≤ (k:Int))=True:=eq_true (by omega)
   have f1:=HO.out.frozen (by simp [idx_len];omega) k
   have k1:=HO.out.cell (by simp [idx_len];omega) (j:=k) (by simp [idx_len];omega)
   have HO2:=Lib.hid (HO.out.store (by simp [idx_len];omega) k (k:Int))
   rw [idx_set hlt] at HO2
   obtain ⟨m1,m2,m3,m4⟩:=wnum (i:=k) (by omega)
   go_wp2_with fail
   exact ⟨⟨k + 1,hlt,by rw [Int.natCast_add];rfl,HO2.out⟩,by simp [intOf];omega⟩
  ·obtain rfl:k=p.length:=by omega
   have b1:((p.length:Int) < (p.length:Int))=False:=eq_false (by omega)
   rw [Nat.sub_self,List.replicate_zero,List.append_nil] at HO
   obtain ⟨ad',cp',e',-,hr,-⟩:=HO.out.ints
   simp only [Value.slice.injEq,idx_len] at e'
   obtain ⟨rfl,-,rfl⟩:=e'
   have HBw:=Lib.hid (bl_trans HB1.out HO.out.hb)
   have HA:=Lib.hid (askOrder p ad cap w.heap.size wr ((HO.out.hb.cell (cell_lt HC1.out)).trans HC1.out) (HP.out.below HBw.out))
   have HS:=Lib.hid (sortI_l 100 #[.pointer (some ⟨w.heap.size,0,none⟩)] (ltI p) (fun i=>0 ≤ i∧i < p.length) (fun _ _=>rfl) (idx p.length) (some ⟨g1,0,none⟩) p.length wr p.length HA.out (fun x hx=>idx_mem.1 hx) hr (idx_len _).symm (by rw [idx_len];exact Nat.le_refl _) (fun h=>by cases h) (by rw [idx_len];omega))
   clear hr HA
   go_wp2_with fail
   (with_reducible refine HS.out.mono ?_);rintro e w3 ⟨v3,rfl,hO3⟩
   have HO3:=Lib.hid (hO3.base HBw.out)
   clear hO3
   go_wp2_with fail
   go_ret
   exact ⟨_,rfl,HO3.out⟩
end Go.Proofs.YtpjaefcmaiimlaaGreat

/-
  Contract of sorts.Twice.
-/
namespace Go.Proofs.YtpjaefcmaiimlaaGreat
open Go.RowKit

set_option maxHeartbeats 8000000 in
set_option maxRecDepth 100000 in
theorem twice_l (p:List Pt) (ad:Option Addr) (cap:Nat) (w:World) (hP:PtRow w ad p) (hcap:p.length ≤ cap) (hlen:p.length ≤ 10000) :
  Calls Tryz.prog 45 #[.slice ad p.length cap] w fun e w'=>∃ a b ok,e=.returned (.tuple #[.int .i64 a,.int .i64 b,.bool ok])∧TwiceIs p a b ok∧Below w.heap.size w w':=by
 have HP0:=Lib.hid hP
 have HQ:=Lib.hid (order_l p ad cap w hP hcap hlen)
 have ho:=ordered_msort p
 generalize msort (ltI p) (idx p.length)=l at *
 have hll:=ho.len
 have HOR:=Lib.hid ho
 clear hP ho
 go_enter Tryz.func45,Tryz.ntmps45
 go_wp2_with fail
 (with_reducible refine HQ.out.mono ?_);rintro e w1 ⟨v4,rfl,hO4⟩
 obtain ⟨ad4,cp4,rfl,hcp4,hI,hn4⟩:=hO4.slice
 have HI0:=Lib.hid hI
 have HB0:=Lib.hid hO4.hb
 clear hI hO4 hn4
 go_wp2_with fail
 go_loopw [5,6,7,9] (fun av bv fv mv W=>∃ (m:Nat) (a b:Int) (ok:Bool),1 ≤ m∧av=.int .i64 a∧bv=.int .i64 b∧fv=.bool ok∧mv=.int .i64 m∧TwiceTo p l m a b ok∧IntRow W ad4 l∧Below w.heap.size w W) (fun _ _ _ mv _=>p.length + 1 - (intOf mv).toNat)
 case atStart=>exact ⟨1,0,0,false,Nat.le_refl _,rfl,rfl,rfl,rfl,twiceTo_start p l,HI0.out,HB0.out⟩
 case round=>
  obtain ⟨m,a,b,ok,hm1,rfl,rfl,rfl,rfl,hT,hI,hB⟩:=hrel
  clear HB0 HI0
  have HI:=Lib.hid hI
  have HT:=Lib.hid hT
  have HP:=Lib.hid (HP0.out.below hB)
  have HB:=Lib.hid hB
  clear hI hT hB
  by_cases hlt:m < p.length
  ·have hml:m < l.length:=by omega
   obtain ⟨m',hm'⟩:∃ m',m=m' + 1:=⟨m - 1,by omega⟩
   have hml':m' < l.length:=by omega
   have am:=HOR.out.at hml'
   obtain ⟨ii,hEi⟩:=Int.eq_ofNat_of_zero_le am.1
   have hii:ii < p.length:=by omega
   have HEi:=Lib.hid hEi
   clear am hEi
   have am:=HOR.out.at hml
   obtain ⟨kk,hEk⟩:=Int.eq_ofNat_of_zero_le am.1
   have hkk:kk < p.length:=by omega
   have HK:=Lib.hid hEk
   have HM:=Lib.hid hm'
   have hT1:TwiceTo p l (m' + 1) a b ok:=by have:=HT.out;rw [hm'] at this;exact this
   have hE1:l[m' + 1]'(by omega)=(kk:Int):=by rw [← hEk];subst hm';rfl
   have hsk:(pget p ii=pget p kk → ok=true∧a ≤ (ii:Int)) → TwiceTo p l (m + 1) a b ok:=by
    intro h
    rw [hm']
    exact hT1.skip (by omega) (fun e=>by rw [HEi.out];exact h (by rw [HEi.out,hE1,pg_cast,pg_cast] at e;exact e))
   have htk:pget p ii=pget p kk → (ok=true → (ii:Int) < a) → TwiceTo p l (m + 1) (ii:Int) (kk:Int) true:=by
    intro he hs
    have h:=hT1.take (by omega) (by rw [HEi.out,hE1,pg_cast,pg_cast];exact he) (fun h=>by rw [HEi.out];exact hs h)
    rw [HEi.out,hE1] at h
    rw [hm']
    exact h
   have HSK:=Lib.hid hsk
   have HTK:=Lib.hid htk
   clear am hEk hm' hT1 hE1 hsk htk
   obtain ⟨g4,o4,rfl⟩:=HI.out.some (by omega)
   obtain ⟨g,o,rfl⟩:=HP.out.some (by omega)
   have b0:((m:Int) < (l.length:Int))=True:=eq_true (by omega)
   have d0:(m < p.length)=True:=eq_true (by omega)
   by_cases he:pget p ii=pget p kk
   ·have hx:((pget p ii).x=(pget p kk).x)=True:=eq_true (by rw [he])
    have hy:((pget p ii).y=(pget p kk).y)=True:=eq_true (by rw [he])
    cases ok with
    | false=>
     have HT2:=Lib.hid (HTK.out he (fun h=>by cases h))
     clear he
     go_wp2_with fail
     refine wp_region_held_drew (S:=fun V=>Below wr.heap.size wr V) (by kernel_rfl) ?_ (fun hHeld=>?_)
     ·exact bel_drew wr
     have HI1:=Lib.hid (HI.out.below (bel_drew _))
     have HB1:=Lib.hid HB.out.drew
     revert HI1
     revert HB1
     revert hHeld
     generalize World.drew _=W1
     intro hHeld HB1 HI1
     refine tk (i:=0) (v:=?_) rfl (Or.inl ⟨by rfl,?_⟩) ?_
     rotate_left;· rintro _ -;go_simp;all_goals (with_reducible rfl)
     try simp only [Act.put,x2,x4,x5,x6,x7]
     refine tk (i:=1) (v:=?_) rfl (Or.inl ⟨by rfl,?_⟩) ?_
     rotate_left;· rintro _ -;go_simp;all_goals (with_reducible rfl)
     try simp only [Act.put,x2,x3,x4,x5,x6,x7]
     refine tk (i:=2) (v:=?_) rfl (Or.inl ⟨by rfl,?_⟩) ?_
     rotate_left
     ·intro Wq hSw
      have s1:(m:Int) - 1=(m':Int):=by have:=HM.out;omega
      obtain ⟨m1,m2,m3,m4⟩:=wnum (i:=m') (by have:=HM.out;omega)
      clear hSw
      go_simp;all_goals (with_reducible rfl)
     try simp only [Act.put,x2,x3,x4,x5,x6,x7]
     refine tk (i:=3) (v:=?_) rfl (Or.inl ⟨by rfl,?_⟩) ?_
     rotate_left
     ·intro Wq hSw
      have b1:((m':Int) < (l.length:Int))=True:=eq_true (by omega)
      have d1:(m' < l.length)=True:=eq_true (by omega)
      have c1:((0:Int) ≤ (m':Int))=True:=eq_true (by omega)
      have d2:(m' < p.length)=True:=eq_true (by omega)
      clear hSw
      go_simp;all_goals (with_reducible rfl)
     try simp only [Act.put,x2,x3,x4,x5,x6,x7]
     refine tk (i:=4) (v:=?_) rfl (Or.inl ⟨by rfl,?_⟩) ?_
     rotate_left
     ·intro Wq hSw
      have k0:=intRow_at (HI.out.below hSw) (i:=m') hml' (t:=(ii:Int)) HEi.out
      clear hSw
      go_simp;all_goals (with_reducible rfl)
     try simp only [Act.put,x2,x3,x4,x5,x6,x7]
     refine tk (i:=5) (v:=?_) rfl (Or.inl ⟨by rfl,?_⟩) ?_
     rotate_left;· rintro _ -;go_simp;all_goals (with_reducible rfl)
     try simp only [Act.put,x2,x3,x4,x5,x6,x7]
     refine tk (i:=6) (v:=?_) rfl (Or.inl ⟨by rfl,?_⟩) ?_
     rotate_left;· rintro _ -;go_simp;all_goals (with_reducible rfl)
     try simp only [Act.put,x2,x3,x4,x5,x6,x7]
     refine tk (i:=7) (v:=?_) rfl (Or.inl ⟨by rfl,?_⟩) ?_
     rotate_left
     ·intro Wq hSw
      have b1:((m:Int) < (l.length:Int))=True:=eq_true (by omega)
      have d1:(m < l.length)=True:=eq_true (by omega)
      have c1:((0:Int) ≤ (m:Int))=True:=eq_true (by omega)
      have d2:(m < p.length)=True:=eq_true (by omega)
      clear hSw
      go_simp;all_goals (with_reducible rfl)
     try simp only [Act.put,x2,x3,x4,x5,x6,x7]
     refine tk (i:=8) (v:=?_) rfl (Or.inl ⟨by rfl,?_⟩) ?_
     rotate_left
     ·intro Wq hSw
      have k0:=intRow_at (HI.out.below hSw) (i:=m) hml (t:=(kk:Int)) HK.out
      clear hSw
      go_simp;all_goals (with_reducible rfl)
     try simp only [Act.put,x2,x3,x4,x5,x6,x7]
     refine tk (i:=9) (v:=?_) rfl (Or.inl ⟨by rfl,?_⟩) ?_
     rotate_left;· rintro _ -;go_simp;all_goals (with_reducible rfl)
     try simp only [Act.put,x2,x3,x4,x5,x6,x7]
     refine tk (i:=10) (v:=?_) rfl (Or.inl ⟨by rfl,?_⟩) ?_
     rotate_left;· rintro _ -;go_simp;all_goals (with_reducible rfl)
     try simp only [Act.put,x2,x3,x4,x5,x6,x7]
     refine wpAnyH_done (by kernel_rfl) ?_ _
     have HP1:=Lib.hid (HP0.out.below HB1.out)
     clear HI HB HP
     go_wp2_with fail
     refine wp_region_held_drew (S:=fun V=>Below W1.heap.size W1 V) (by kernel_rfl) ?_ (fun hHeld=>?_)
     ·exact bel_drew W1
     have HI2:=Lib.hid (HI1.out.below (bel_drew _))
     have HB2:=Lib.hid HB1.out.drew
     revert HI2
     revert HB2
     revert hHeld
     generalize World.drew _=W2
     intro hHeld HB2 HI2
     refine tk (i:=0) (v:=?_) rfl (Or.inl ⟨by rfl,?_⟩) ?_
     rotate_left;· rintro _ -;go_simp;all_goals (with_reducible rfl)
     try simp only [Act.put,x2,x4,x5,x6,x7]
     refine tk (i:=1) (v:=?_) rfl (Or.inl ⟨by rfl,?_⟩) ?_
     rotate_left;· rintro _ -;go_simp;all_goals (with_reducible rfl)
     try simp only [Act.put,x2,x3,x4,x5,x6,x7]
     refine tk (i:=2) (v:=?_) rfl (Or.inl ⟨by rfl,?_⟩) ?_
     rotate_left
     ·intro Wq hSw
      have b1:((ii:Int) < (p.length:Int))=True:=eq_true (by omega)
      have d1:(ii < p.length)=True:=eq_true (by omega)
      have c1:((0:Int) ≤ (ii:Int))=True:=eq_true (by omega)
      clear hSw
      go_simp;all_goals (with_reducible rfl)
     try simp only [Act.put,x2,x3,x4,x5,x6,x7]
     refine tk (i:=3) (v:=?_) rfl (Or.inl ⟨by rfl,?_⟩) ?_
     rotate_left
     ·intro Wq hSw
      obtain ⟨k0,k1⟩:=ptRow_at (HP1.out.below hSw) (i:=ii) hii (t:=pget p ii) rfl
      clear hSw
      go_simp;all_goals (with_reducible rfl)
     try simp only [Act.put,x2,x3,x4,x5,x6,x7]
     refine tk (i:=4) (v:=?_) rfl (Or.inl ⟨by rfl,?_⟩) ?_
     rotate_left;· rintro _ -;go_simp;all_goals (with_reducible rfl)
     try simp only [Act.put,x2,x3,x4,x5,x6,x7]
     refine tk (i:=5) (v:=?_) rfl (Or.inl ⟨by rfl,?_⟩) ?_
     rotate_left;· rintro _ -;go_simp;all_goals (with_reducible rfl)
     try simp only [Act.put,x2,x3,x4,x5,x6,x7]
     refine tk (i:=6) (v:=?_) rfl (Or.inl ⟨by rfl,?_⟩) ?_
     rotate_left
     ·intro Wq hSw
      have b1:((kk:Int) < (p.length:Int))=True:=eq_true (by omega)
      have d1:(kk < p.length)=True:=eq_true (by omega)
      have c1:((0:Int) ≤ (kk:Int))=True:=eq_true (by omega)
      clear hSw
      go_simp;all_goals (with_reducible rfl)
     try simp only [Act.put,x2,x3,x4,x5,x6,x7]
     refine tk (i:=7) (v:=?_) rfl (Or.inl ⟨by rfl,?_⟩) ?_
     rotate_left
     ·intro Wq hSw
      obtain ⟨k0,k1⟩:=ptRow_at (HP1.out.below hSw) (i:=kk) hkk (t:=pget p kk) rfl
      clear hSw
      go_simp;all_goals (with_reducible rfl)
     try simp only [Act.put,x2,x3,x4,x5,x6,x7]
     refine tk (i:=8) (v:=?_) rfl (Or.inl ⟨by rfl,?_⟩) ?_
     rotate_left;· rintro _ -;go_simp;all_goals (with_reducible rfl)
     try simp only [Act.put,x2,x3,x4,x5,x6,x7]
     refine tk (i:=9) (v:=?_) rfl (Or.inl ⟨by rfl,?_⟩) ?_
     rotate_left;· rintro _ -;go_simp;all_goals (with_reducible rfl)
     try simp only [Act.put,x2,x3,x4,x5,x6,x7]
     refine tk (i:=10) (v:=?_) rfl (Or.inl ⟨by rfl,?_⟩) ?_
     rotate_left;· rintro _ -;go_simp;all_goals (with_reducible rfl)
     try simp only [Act.put,x2,x3,x4,x5,x6,x7]
     refine tk (i:=11) (v:=?_) rfl (Or.inl ⟨by rfl,?_⟩) ?_
     rotate_left;· rintro _ -;go_simp;all_goals (with_reducible rfl)
     try simp only [Act.put,x2,x3,x4,x5,x6,x7]
     refine tk (i:=12) (v:=?_) rfl (Or.inl ⟨by rfl,?_⟩) ?_
     rotate_left;· rintro _ -;go_simp;all_goals (with_reducible rfl)
     try simp only [Act.put,x2,x3,x4,x5,x6,x7]
     refine tk (i:=13) (v:=_) rfl (Or.inr ⟨by rfl,rfl⟩) ?_
     try simp only [Act.put,x2,x3,x4,x5,x6,x7]
     refine tk (i:=14) (v:=_) rfl (Or.inr ⟨by rfl,rfl⟩) ?_
     try simp only [Act.put,x2,x3,x4,x5,x6,x7]
     refine tk (i:=15) (v:=_) rfl (Or.inr ⟨by rfl,rfl⟩) ?_
     try simp only [Act.put,x2,x3,x4,x5,x6,x7]
     refine tk (i:=16) (v:=?_) rfl (Or.inl ⟨by rfl,?_⟩) ?_
     rotate_left;· rintro _ -;go_simp;all_goals (with_reducible rfl)
     try simp only [Act.put,x2,x3,x4,x5,x6,x7]
     refine tk (i:=17) (v:=?_) rfl (Or.inl ⟨by rfl,?_⟩) ?_
     rotate_left;· rintro _ -;go_simp;all_goals (with_reducible rfl)
     try simp only [Act.put,x2,x3,x4,x5,x6,x7]
     refine wpAnyH_done (by kernel_rfl) ?_ _
     clear HI1 HB1
     obtain ⟨m1,m2,m3,m4⟩:=wnum (i:=m) (by omega)
     go_wp2_with fail
     clear m1 m2 m3 m4
     exact ⟨⟨m + 1,(ii:Int),(kk:Int),true,by omega,rfl,rfl,rfl,by rw [Int.natCast_add];rfl,HT2.out,HI2.out,HB2.out⟩,by simp [intOf];omega⟩
    | true=>
     by_cases hia:(ii:Int) < a
     ·have HT2:=Lib.hid (HTK.out he (fun _=>hia))
      have h8:((ii:Int) < a)=True:=eq_true hia
      clear he
      go_wp2_with fail
      refine wp_region_held_drew (S:=fun V=>Below wr.heap.size wr V) (by kernel_rfl) ?_ (fun hHeld=>?_)
      ·exact bel_drew wr
      have HI1:=Lib.hid (HI.out.below (bel_drew _))
      have HB1:=Lib.hid HB.out.drew
      revert HI1
      revert HB1
      revert hHeld
      generalize World.drew _=W1
      intro hHeld HB1 HI1
      refine tk (i:=0) (v:=?_) rfl (Or.inl ⟨by rfl,?_⟩) ?_
      rotate_left;· rintro _ -;go_simp;all_goals (with_reducible rfl)
      try simp only [Act.put,x2,x4,x5,x6,x7]
      refine tk (i:=1) (v:=?_) rfl (Or.inl ⟨by rfl,?_⟩) ?_
      rotate_left;· rintro _ -;go_simp;all_goals (with_reducible rfl)
      try simp only [Act.put,x2,x3,x4,x5,x6,x7]
      refine tk (i:=2) (v:=?_) rfl (Or.inl ⟨by rfl,?_⟩) ?_
      rotate_left
      ·intro Wq hSw
       have s1:(m:Int) - 1=(m':Int):=by have:=HM.out;omega
       obtain ⟨m1,m2,m3,m4⟩:=wnum (i:=m') (by have:=HM.out;omega)
       clear hSw
       go_simp;all_goals (with_reducible rfl)
      try simp only [Act.put,x2,x3,x4,x5,x6,x7]
      refine tk (i:=3) (v:=?_) rfl (Or.inl ⟨by rfl,?_⟩) ?_
      rotate_left
      ·intro Wq hSw
       have b1:((m':Int) < (l.length:Int))=True:=eq_true (by omega)
       have d1:(m' < l.length)=True:=eq_true (by omega)
       have c1:((0:Int) ≤ (m':Int))=True:=eq_true (by omega)
       have d2:(m' < p.length)=True:=eq_true (by omega)
       clear hSw
       go_simp;all_goals (with_reducible rfl)
      try simp only [Act.put,x2,x3,x4,x5,x6,x7]
      refine tk (i:=4) (v:=?_) rfl (Or.inl ⟨by rfl,?_⟩) ?_
      rotate_left
      ·intro Wq hSw
       have k0:=intRow_at (HI.out.below hSw) (i:=m') hml' (t:=(ii:Int)) HEi.out
       clear hSw
       go_simp;all_goals (with_reducible rfl)
      try simp only [Act.put,x2,x3,x4,x5,x6,x7]
      refine tk (i:=5) (v:=?_) rfl (Or.inl ⟨by rfl,?_⟩) ?_
      rotate_left;· rintro _ -;go_simp;all_goals (with_reducible rfl)
      try simp only [Act.put,x2,x3,x4,x5,x6,x7]
      refine tk (i:=6) (v:=?_) rfl (Or.inl ⟨by rfl,?_⟩) ?_
      rotate_left;· rintro _ -;go_simp;all_goals (with_reducible rfl)
      try simp only [Act.put,x2,x3,x4,x5,x6,x7]
      refine tk (i:=7) (v:=?_) rfl (Or.inl ⟨by rfl,?_⟩) ?_
      rotate_left
      ·intro Wq hSw
       have b1:((m:Int) < (l.length:Int))=True:=eq_true (by omega)
       have d1:(m < l.length)=True:=eq_true (by omega)
       have c1:((0:Int) ≤ (m:Int))=True:=eq_true (by omega)
       have d2:(m < p.length)=True:=eq_true (by omega)
       clear hSw
       go_simp;all_goals (with_reducible rfl)
      try simp only [Act.put,x2,x3,x4,x5,x6,x7]
      refine tk (i:=8) (v:=?_) rfl (Or.inl ⟨by rfl,?_⟩) ?_
      rotate_left
      ·intro Wq hSw
       have k0:=intRow_at (HI.out.below hSw) (i:=m) hml (t:=(kk:Int)) HK.out
       clear hSw
       go_simp;all_goals (with_reducible rfl)
      try simp only [Act.put,x2,x3,x4,x5,x6,x7]
      refine tk (i:=9) (v:=?_) rfl (Or.inl ⟨by rfl,?_⟩) ?_
      rotate_left;· rintro _ -;go_simp;all_goals (with_reducible rfl)
      try simp only [Act.put,x2,x3,x4,x5,x6,x7]
      refine tk (i:=10) (v:=?_) rfl (Or.inl ⟨by rfl,?_⟩) ?_
      rotate_left;· rintro _ -;go_simp;all_goals (with_reducible rfl)
      try simp only [Act.put,x2,x3,x4,x5,x6,x7]
      refine wpAnyH_done (by kernel_rfl) ?_ _
      have HP1:=Lib.hid (HP0.out.below HB1.out)
      clear HI HB HP
      go_wp2_with fail
      refine wp_region_held_drew (S:=fun V=>Below W1.heap.size W1 V) (by kernel_rfl) ?_ (fun hHeld=>?_)
      ·exact bel_drew W1
      have HI2:=Lib.hid (HI1.out.below (bel_drew _))
      have HB2:=Lib.hid HB1.out.drew
      revert HI2
      revert HB2
      revert hHeld
      generalize World.drew _=W2
      intro hHeld HB2 HI2
      refine tk (i:=0) (v:=?_) rfl (Or.inl ⟨by rfl,?_⟩) ?_
      rotate_left;· rintro _ -;go_simp;all_goals (with_reducible rfl)
      try simp only [Act.put,x2,x4,x5,x6,x7]
      refine tk (i:=1) (v:=?_) rfl (Or.inl ⟨by rfl,?_⟩) ?_
      rotate_left;· rintro _ -;go_simp;all_goals (with_reducible rfl)
      try simp only [Act.put,x2,x3,x4,x5,x6,x7]
      refine tk (i:=2) (v:=?_) rfl (Or.inl ⟨by rfl,?_⟩) ?_
      rotate_left
      ·intro Wq hSw
       have b1:((ii:Int) < (p.length:Int))=True:=eq_true (by omega)
       have d1:(ii < p.length)=True:=eq_true (by omega)
       have c1:((0:Int) ≤ (ii:Int))=True:=eq_true (by omega)
       clear hSw
       go_simp;all_goals (with_reducible rfl)
      try simp only [Act.put,x2,x3,x4,x5,x6,x7]
      refine tk (i:=3) (v:=?_) rfl (Or.inl ⟨by rfl,?_⟩) ?_
      rotate_left
      ·intro Wq hSw
       obtain ⟨k0,k1⟩:=ptRow_at (HP1.out.below hSw) (i:=ii) hii (t:=pget p ii) rfl
       clear hSw
       go_simp;all_goals (with_reducible rfl)
      try simp only [Act.put,x2,x3,x4,x5,x6,x7]
      refine tk (i:=4) (v:=?_) rfl (Or.inl ⟨by rfl,?_⟩) ?_
      rotate_left;· rintro _ -;go_simp;all_goals (with_reducible rfl)
      try simp only [Act.put,x2,x3,x4,x5,x6,x7]
      refine tk (i:=5) (v:=?_) rfl (Or.inl ⟨by rfl,?_⟩) ?_
      rotate_left;· rintro _ -;go_simp;all_goals (with_reducible rfl)
      try simp only [Act.put,x2,x3,x4,x5,x6,x7]
      refine tk (i:=6) (v:=?_) rfl (Or.inl ⟨by rfl,?_⟩) ?_
      rotate_left
      ·intro Wq hSw
       have b1:((kk:Int) < (p.length:Int))=True:=eq_true (by omega)
       have d1:(kk < p.length)=True:=eq_true (by omega)
       have c1:((0:Int) ≤ (kk:Int))=True:=eq_true (by omega)
       clear hSw
       go_simp;all_goals (with_reducible rfl)
      try simp only [Act.put,x2,x3,x4,x5,x6,x7]
      refine tk (i:=7) (v:=?_) rfl (Or.inl ⟨by rfl,?_⟩) ?_
      rotate_left
      ·intro Wq hSw
       obtain ⟨k0,k1⟩:=ptRow_at (HP1.out.below hSw) (i:=kk) hkk (t:=pget p kk) rfl
       clear hSw
       go_simp;all_goals (with_reducible rfl)
      try simp only [Act.put,x2,x3,x4,x5,x6,x7]
      refine tk (i:=8) (v:=?_) rfl (Or.inl ⟨by rfl,?_⟩) ?_
      rotate_left;· rintro _ -;go_simp;all_goals (with_reducible rfl)
      try simp only [Act.put,x2,x3,x4,x5,x6,x7]
      refine tk (i:=9) (v:=?_) rfl (Or.inl ⟨by rfl,?_⟩) ?_
      rotate_left;· rintro _ -;go_simp;all_goals (with_reducible rfl)
      try simp only [Act.put,x2,x3,x4,x5,x6,x7]
      refine tk (i:=10) (v:=?_) rfl (Or.inl ⟨by rfl,?_⟩) ?_
      rotate_left;· rintro _ -;go_simp;all_goals (with_reducible rfl)
      try simp only [Act.put,x2,x3,x4,x5,x6,x7]
      refine tk (i:=11) (v:=?_) rfl (Or.inl ⟨by rfl,?_⟩) ?_
      rotate_left;· rintro _ -;go_simp;all_goals (with_reducible rfl)
      try simp only [Act.put,x2,x3,x4,x5,x6,x7]
      refine tk (i:=12) (v:=?_) rfl (Or.inl ⟨by rfl,?_⟩) ?_
      rotate_left;· rintro _ -;go_simp;all_goals (with_reducible rfl)
      try simp only [Act.put,x2,x3,x4,x5,x6,x7]
      refine tk (i:=13) (v:=?_) rfl (Or.inl ⟨by rfl,?_⟩) ?_
      rotate_left;· rintro _ -;go_simp;all_goals (with_reducible rfl)
      try simp only [Act.put,x2,x3,x4,x5,x6,x7]
      refine tk (i:=14) (v:=?_) rfl (Or.inl ⟨by rfl,?_⟩) ?_
      rotate_left;· rintro _ -;go_simp;all_goals (with_reducible rfl)
      try simp only [Act.put,x2,x3,x4,x5,x6,x7]
      refine tk (i:=15) (v:=?_) rfl (Or.inl ⟨by rfl,?_⟩) ?_
      rotate_left;· rintro _ -;go_simp;all_goals (with_reducible rfl)
      try simp only [Act.put,x2,x3,x4,x5,x6,x7]
      refine tk (i:=16) (v:=?_) rfl (Or.inl ⟨by rfl,?_⟩) ?_
      rotate_left;· rintro _ -;go_simp;all_goals (with_reducible rfl)
      try simp only [Act.put,x2,x3,x4,x5,x6,x7]
      refine tk (i:=17) (v:=?_) rfl (Or.inl ⟨by rfl,?_⟩) ?_
      rotate_left;· rintro _ -;go_simp;all_goals (with_reducible rfl)
      try simp only [Act.put,x2,x3,x4,x5,x6,x7]
      refine wpAnyH_done (by kernel_rfl) ?_ _
      clear HI1 HB1
      obtain ⟨m1,m2,m3,m4⟩:=wnum (i:=m) (by omega)
      go_wp2_with fail
      clear m1 m2 m3 m4
      exact ⟨⟨m + 1,(ii:Int),(kk:Int),true,by omega,rfl,rfl,rfl,by rw [Int.natCast_add];rfl,HT2.out,HI2.out,HB2.out⟩,by simp [intOf];omega⟩
     ·have HT2:=Lib.hid (HSK.out (fun _=>⟨rfl,by omega⟩))
      have h8:((ii:Int) < a)=False:=eq_false hia
      clear he
      go_wp2_with fail
      refine wp_region_held_drew (S:=fun V=>Below wr.heap.size wr V) (by kernel_rfl) ?_ (fun hHeld=>?_)
      ·exact bel_drew wr
      have HI1:=Lib.hid (HI.out.below (bel_drew _))
      have HB1:=Lib.hid HB.out.drew
      revert HI1
      revert HB1
      revert hHeld
      generalize World.drew _=W1
      intro hHeld HB1 HI1
      refine tk (i:=0) (v:=?_) rfl (Or.inl ⟨by rfl,?_⟩) ?_
      rotate_left;· rintro _ -;go_simp;all_goals (with_reducible rfl)
      try simp only [Act.put,x2,x4,x5,x6,x7]
      refine tk (i:=1) (v:=?_) rfl (Or.inl ⟨by rfl,?_⟩) ?_
      rotate_left;· rintro _ -;go_simp;all_goals (with_reducible rfl)
      try simp only [Act.put,x2,x3,x4,x5,x6,x7]
      refine tk (i:=2) (v:=?_) rfl (Or.inl ⟨by rfl,?_⟩) ?_
      rotate_left
      ·intro Wq hSw
       have s1:(m:Int) - 1=(m':Int):=by have:=HM.out;omega
       obtain ⟨m1,m2,m3,m4⟩:=wnum (i:=m') (by have:=HM.out;omega)
       clear hSw
       go_simp;all_goals (with_reducible rfl)
      try simp only [Act.put,x2,x3,x4,x5,x6,x7]
      refine tk (i:=3) (v:=?_) rfl (Or.inl ⟨by rfl,?_⟩) ?_
      rotate_left
      ·intro Wq hSw
       have b1:((m':Int) < (l.length:Int))=True:=eq_true (by omega)
       have d1:(m' < l.length)=True:=eq_true (by omega)
       have c1:((0:Int) ≤ (m':Int))=True:=eq_true (by omega)
       have d2:(m' < p.length)=True:=eq_true (by omega)
       clear hSw
       go_simp;all_goals (with_reducible rfl)
      try simp only [Act.put,x2,x3,x4,x5,x6,x7]
      refine tk (i:=4) (v:=?_) rfl (Or.inl ⟨by rfl,?_⟩) ?_
      rotate_left
      ·intro Wq hSw
       have k0:=intRow_at (HI.out.below hSw) (i:=m') hml' (t:=(ii:Int)) HEi.out
       clear hSw
       go_simp;all_goals (with_reducible rfl)
      try simp only [Act.put,x2,x3,x4,x5,x6,x7]
      refine tk (i:=5) (v:=?_) rfl (Or.inl ⟨by rfl,?_⟩) ?_
      rotate_left;· rintro _ -;go_simp;all_goals (with_reducible rfl)
      try simp only [Act.put,x2,x3,x4,x5,x6,x7]
      refine tk (i:=6) (v:=?_) rfl (Or.inl ⟨by rfl,?_⟩) ?_
      rotate_left;· rintro _ -;go_simp;all_goals (with_reducible rfl)
      try simp only [Act.put,x2,x3,x4,x5,x6,x7]
      refine tk (i:=7) (v:=?_) rfl (Or.inl ⟨by rfl,?_⟩) ?_
      rotate_left
      ·intro Wq hSw
       have b1:((m:Int) < (l.length:Int))=True:=eq_true (by omega)
       have d1:(m < l.length)=True:=eq_true (by omega)
       have c1:((0:Int) ≤ (m:Int))=True:=eq_true (by omega)
       have d2:(m < p.length)=True:=eq_true (by omega)
       clear hSw
       go_simp;all_goals (with_reducible rfl)
      try simp only [Act.put,x2,x3,x4,x5,x6,x7]
      refine tk (i:=8) (v:=?_) rfl (Or.inl ⟨by rfl,?_⟩) ?_
      rotate_left
      ·intro Wq hSw
       have k0:=intRow_at (HI.out.below hSw) (i:=m) hml (t:=(kk:Int)) HK.out
       clear hSw
       go_simp;all_goals (with_reducible rfl)
      try simp only [Act.put,x2,x3,x4,x5,x6,x7]
      refine tk (i:=9) (v:=?_) rfl (Or.inl ⟨by rfl,?_⟩) ?_
      rotate_left;· rintro _ -;go_simp;all_goals (with_reducible rfl)
      try simp only [Act.put,x2,x3,x4,x5,x6,x7]
      refine tk (i:=10) (v:=?_) rfl (Or.inl ⟨by rfl,?_⟩) ?_
      rotate_left;· rintro _ -;go_simp;all_goals (with_reducible rfl)
      try simp only [Act.put,x2,x3,x4,x5,x6,x7]
      refine wpAnyH_done (by kernel_rfl) ?_ _
      have HP1:=Lib.hid (HP0.out.below HB1.out)
      clear HI HB HP
      go_wp2_with fail
      refine wp_region_held_drew (S:=fun V=>Below W1.heap.size W1 V) (by kernel_rfl) ?_ (fun hHeld=>?_)
      ·exact bel_drew W1
      have HI2:=Lib.hid (HI1.out.below (bel_drew _))
      have HB2:=Lib.hid HB1.out.drew
      revert HI2
      revert HB2
      revert hHeld
      generalize World.drew _=W2
      intro hHeld HB2 HI2
      refine tk (i:=0) (v:=?_) rfl (Or.inl ⟨by rfl,?_⟩) ?_
      rotate_left;· rintro _ -;go_simp;all_goals (with_reducible rfl)
      try simp only [Act.put,x2,x4,x5,x6,x7]
      refine tk (i:=1) (v:=?_) rfl (Or.inl ⟨by rfl,?_⟩) ?_
      rotate_left;· rintro _ -;go_simp;all_goals (with_reducible rfl)
      try simp only [Act.put,x2,x3,x4,x5,x6,x7]
      refine tk (i:=2) (v:=?_) rfl (Or.inl ⟨by rfl,?_⟩) ?_
      rotate_left
      ·intro Wq hSw
       have b1:((ii:Int) < (p.length:Int))=True:=eq_true (by omega)
       have d1:(ii < p.length)=True:=eq_true (by omega)
       have c1:((0:Int) ≤ (ii:Int))=True:=eq_true (by omega)
       clear hSw
       go_simp;all_goals (with_reducible rfl)
      try simp only [Act.put,x2,x3,x4,x5,x6,x7]
      refine tk (i:=3) (v:=?_) rfl (Or.inl ⟨by rfl,?_⟩) ?_
      rotate_left
      ·intro Wq hSw
       obtain ⟨k0,k1⟩:=ptRow_at (HP1.out.below hSw) (i:=ii) hii (t:=pget p ii) rfl
       clear hSw
       go_simp;all_goals (with_reducible rfl)
      try simp only [Act.put,x2,x3,x4,x5,x6,x7]
      refine tk (i:=4) (v:=?_) rfl (Or.inl ⟨by rfl,?_⟩) ?_
      rotate_left;· rintro _ -;go_simp;all_goals (with_reducible rfl)
      try simp only [Act.put,x2,x3,x4,x5,x6,x7]
      refine tk (i:=5) (v:=?_) rfl (Or.inl ⟨by rfl,?_⟩) ?_
      rotate_left;· rintro _ -;go_simp;all_goals (with_reducible rfl)
      try simp only [Act.put,x2,x3,x4,x5,x6,x7]
      refine tk (i:=6) (v:=?_) rfl (Or.inl ⟨by rfl,?_⟩) ?_
      rotate_left
      ·intro Wq hSw
       have b1:((kk:Int) < (p.length:Int))=True:=eq_true (by omega)
       have d1:(kk < p.length)=True:=eq_true (by omega)
       have c1:((0:Int) ≤ (kk:Int))=True:=eq_true (by omega)
       clear hSw
       go_simp;all_goals (with_reducible rfl)
      try simp only [Act.put,x2,x3,x4,x5,x6,x7]
      refine tk (i:=7) (v:=?_) rfl (Or.inl ⟨by rfl,?_⟩) ?_
      rotate_left
      ·intro Wq hSw
       obtain ⟨k0,k1⟩:=ptRow_at (HP1.out.below hSw) (i:=kk) hkk (t:=pget p kk) rfl
       clear hSw
       go_simp;all_goals (with_reducible rfl)
      try simp only [Act.put,x2,x3,x4,x5,x6,x7]
      refine tk (i:=8) (v:=?_) rfl (Or.inl ⟨by rfl,?_⟩) ?_
      rotate_left;· rintro _ -;go_simp;all_goals (with_reducible rfl)
      try simp only [Act.put,x2,x3,x4,x5,x6,x7]
      refine tk (i:=9) (v:=?_) rfl (Or.inl ⟨by rfl,?_⟩) ?_
      rotate_left;· rintro _ -;go_simp;all_goals (with_reducible rfl)
      try simp only [Act.put,x2,x3,x4,x5,x6,x7]
      refine tk (i:=10) (v:=?_) rfl (Or.inl ⟨by rfl,?_⟩) ?_
      rotate_left;· rintro _ -;go_simp;all_goals (with_reducible rfl)
      try simp only [Act.put,x2,x3,x4,x5,x6,x7]
      refine tk (i:=11) (v:=?_) rfl (Or.inl ⟨by rfl,?_⟩) ?_
      rotate_left;· rintro _ -;go_simp;all_goals (with_reducible rfl)
      try simp only [Act.put,x2,x3,x4,x5,x6,x7]
      refine tk (i:=12) (v:=?_) rfl (Or.inl ⟨by rfl,?_⟩) ?_
      rotate_left;· rintro _ -;go_simp;all_goals (with_reducible rfl)
      try simp only [Act.put,x2,x3,x4,x5,x6,x7]
      refine tk (i:=13) (v:=?_) rfl (Or.inl ⟨by rfl,?_⟩) ?_
      rotate_left;· rintro _ -;go_simp;all_goals (with_reducible rfl)
      try simp only [Act.put,x2,x3,x4,x5,x6,x7]
      refine tk (i:=14) (v:=?_) rfl (Or.inl ⟨by rfl,?_⟩) ?_
      rotate_left;· rintro _ -;go_simp;all_goals (with_reducible rfl)
      try simp only [Act.put,x2,x3,x4,x5,x6,x7]
      refine tk (i:=15) (v:=?_) rfl (Or.inl ⟨by rfl,?_⟩) ?_
      rotate_left;· rintro _ -;go_simp;all_goals (with_reducible rfl)
      try simp only [Act.put,x2,x3,x4,x5,x6,x7]
      refine tk (i:=16) (v:=?_) rfl (Or.inl ⟨by rfl,?_⟩) ?_
      rotate_left;· rintro _ -;go_simp;all_goals (with_reducible rfl)
      try simp only [Act.put,x2,x3,x4,x5,x6,x7]
      refine tk (i:=17) (v:=?_) rfl (Or.inl ⟨by rfl,?_⟩) ?_
      rotate_left;· rintro _ -;go_simp;all_goals (with_reducible rfl)
      try simp only [Act.put,x2,x3,x4,x5,x6,x7]
      refine wpAnyH_done (by kernel_rfl) ?_ _
      clear HI1 HB1
      obtain ⟨m1,m2,m3,m4⟩:=wnum (i:=m) (by omega)
      go_wp2_with fail
      clear m1 m2 m3 m4
      exact ⟨⟨m + 1,a,b,true,by omega,rfl,rfl,rfl,by rw [Int.natCast_add];rfl,HT2.out,HI2.out,HB2.out⟩,by simp [intOf];omega⟩
   ·have HT2:=Lib.hid (HSK.out (fun h=>absurd h he))
    by_cases hx:(pget p ii).x=(pget p kk).x
    ·have hy:((pget p ii).y=(pget p kk).y)=False:=eq_false (fun hy=>he (Pt.ext' hx hy))
     clear he
     go_wp2_with fail
     refine wp_region_held_drew (S:=fun V=>Below wr.heap.size wr V) (by kernel_rfl) ?_ (fun hHeld=>?_)
     ·exact bel_drew wr
     have HI1:=Lib.hid (HI.out.below (bel_drew _))
     have HB1:=Lib.hid HB.out.drew
     revert HI1
     revert HB1
     revert hHeld
     generalize World.drew _=W1
     intro hHeld HB1 HI1
     refine tk (i:=0) (v:=?_) rfl (Or.inl ⟨by rfl,?_⟩) ?_
     rotate_left;· rintro _ -;go_simp;all_goals (with_reducible rfl)
     try simp only [Act.put,x2,x4,x5,x6,x7]
     refine tk (i:=1) (v:=?_) rfl (Or.inl ⟨by rfl,?_⟩) ?_
     rotate_left;· rintro _ -;go_simp;all_goals (with_reducible rfl)
     try simp only [Act.put,x2,x3,x4,x5,x6,x7]
     refine tk (i:=2) (v:=?_) rfl (Or.inl ⟨by rfl,?_⟩) ?_
     rotate_left
     ·intro Wq hSw
      have s1:(m:Int) - 1=(m':Int):=by have:=HM.out;omega
      obtain ⟨m1,m2,m3,m4⟩:=wnum (i:=m') (by have:=HM.out;omega)
      clear hSw
      go_simp;all_goals (with_reducible rfl)
     try simp only [Act.put,x2,x3,x4,x5,x6,x7]
     refine tk (i:=3) (v:=?_) rfl (Or.inl ⟨by rfl,?_⟩) ?_
     rotate_left
     ·intro Wq hSw
      have b1:((m':Int) < (l.length:Int))=True:=eq_true (by omega)
      have d1:(m' < l.length)=True:=eq_true (by omega)
      have c1:((0:Int) ≤ (m':Int))=True:=eq_true (by omega)
      have d2:(m' < p.length)=True:=eq_true (by omega)
      clear hSw
      go_simp;all_goals (with_reducible rfl)
     try simp only [Act.put,x2,x3,x4,x5,x6,x7]
     refine tk (i:=4) (v:=?_) rfl (Or.inl ⟨by rfl,?_⟩) ?_
     rotate_left
     ·intro Wq hSw
      have k0:=intRow_at (HI.out.below hSw) (i:=m') hml' (t:=(ii:Int)) HEi.out
      clear hSw
      go_simp;all_goals (with_reducible rfl)
     try simp only [Act.put,x2,x3,x4,x5,x6,x7]
     refine tk (i:=5) (v:=?_) rfl (Or.inl ⟨by rfl,?_⟩) ?_
     rotate_left;· rintro _ -;go_simp;all_goals (with_reducible rfl)
     try simp only [Act.put,x2,x3,x4,x5,x6,x7]
     refine tk (i:=6) (v:=?_) rfl (Or.inl ⟨by rfl,?_⟩) ?_
     rotate_left;· rintro _ -;go_simp;all_goals (with_reducible rfl)
     try simp only [Act.put,x2,x3,x4,x5,x6,x7]
     refine tk (i:=7) (v:=?_) rfl (Or.inl ⟨by rfl,?_⟩) ?_
     rotate_left
     ·intro Wq hSw
      have b1:((m:Int) < (l.length:Int))=True:=eq_true (by omega)
      have d1:(m < l.length)=True:=eq_true (by omega)
      have c1:((0:Int) ≤ (m:Int))=True:=eq_true (by omega)
      have d2:(m < p.length)=True:=eq_true (by omega)
      clear hSw
      go_simp;all_goals (with_reducible rfl)
     try simp only [Act.put,x2,x3,x4,x5,x6,x7]
     refine tk (i:=8) (v:=?_) rfl (Or.inl ⟨by rfl,?_⟩) ?_
     rotate_left
     ·intro Wq hSw
      have k0:=intRow_at (HI.out.below hSw) (i:=m) hml (t:=(kk:Int)) HK.out
      clear hSw
      go_simp;all_goals (with_reducible rfl)
     try simp only [Act.put,x2,x3,x4,x5,x6,x7]
     refine tk (i:=9) (v:=?_) rfl (Or.inl ⟨by rfl,?_⟩) ?_
     rotate_left;· rintro _ -;go_simp;all_goals (with_reducible rfl)
     try simp only [Act.put,x2,x3,x4,x5,x6,x7]
     refine tk (i:=10) (v:=?_) rfl (Or.inl ⟨by rfl,?_⟩) ?_
     rotate_left;· rintro _ -;go_simp;all_goals (with_reducible rfl)
     try simp only [Act.put,x2,x3,x4,x5,x6,x7]
     refine wpAnyH_done (by kernel_rfl) ?_ _
     have HP1:=Lib.hid (HP0.out.below HB1.out)
     clear HI HB HP
     go_wp2_with fail
     refine wp_region_held_drew (S:=fun V=>Below W1.heap.size W1 V) (by kernel_rfl) ?_ (fun hHeld=>?_)
     ·exact bel_drew W1
     have HI2:=Lib.hid (HI1.out.below (bel_drew _))
     have HB2:=Lib.hid HB1.out.drew
     revert HI2
     revert HB2
     revert hHeld
     generalize World.drew _=W2
     intro hHeld HB2 HI2
     refine tk (i:=0) (v:=?_) rfl (Or.inl ⟨by rfl,?_⟩) ?_
     rotate_left;· rintro _ -;go_simp;all_goals (with_reducible rfl)
     try simp only [Act.put,x2,x4,x5,x6,x7]
     refine tk (i:=1) (v:=?_) rfl (Or.inl ⟨by rfl,?_⟩) ?_
     rotate_left;· rintro _ -;go_simp;all_goals (with_reducible rfl)
     try simp only [Act.put,x2,x3,x4,x5,x6,x7]
     refine tk (i:=2) (v:=?_) rfl (Or.inl ⟨by rfl,?_⟩) ?_
     rotate_left
     ·intro Wq hSw
      have b1:((ii:Int) < (p.length:Int))=True:=eq_true (by omega)
      have d1:(ii < p.length)=True:=eq_true (by omega)
      have c1:((0:Int) ≤ (ii:Int))=True:=eq_true (by omega)
      clear hSw
      go_simp;all_goals (with_reducible rfl)
     try simp only [Act.put,x2,x3,x4,x5,x6,x7]
     refine tk (i:=3) (v:=?_) rfl (Or.inl ⟨by rfl,?_⟩) ?_
     rotate_left
     ·intro Wq hSw
      obtain ⟨k0,k1⟩:=ptRow_at (HP1.out.below hSw) (i:=ii) hii (t:=pget p ii) rfl
      clear hSw
      go_simp;all_goals (with_reducible rfl)
     try simp only [Act.put,x2,x3,x4,x5,x6,x7]
     refine tk (i:=4) (v:=?_) rfl (Or.inl ⟨by rfl,?_⟩) ?_
     rotate_left;· rintro _ -;go_simp;all_goals (with_reducible rfl)
     try simp only [Act.put,x2,x3,x4,x5,x6,x7]
     refine tk (i:=5) (v:=?_) rfl (Or.inl ⟨by rfl,?_⟩) ?_
     rotate_left;· rintro _ -;go_simp;all_goals (with_reducible rfl)
     try simp only [Act.put,x2,x3,x4,x5,x6,x7]
     refine tk (i:=6) (v:=?_) rfl (Or.inl ⟨by rfl,?_⟩) ?_
     rotate_left
     ·intro Wq hSw
      have b1:((kk:Int) < (p.length:Int))=True:=eq_true (by omega)
      have d1:(kk < p.length)=True:=eq_true (by omega)
      have c1:((0:Int) ≤ (kk:Int))=True:=eq_true (by omega)
      clear hSw
      go_simp;all_goals (with_reducible rfl)
     try simp only [Act.put,x2,x3,x4,x5,x6,x7]
     refine tk (i:=7) (v:=?_) rfl (Or.inl ⟨by rfl,?_⟩) ?_
     rotate_left
     ·intro Wq hSw
      obtain ⟨k0,k1⟩:=ptRow_at (HP1.out.below hSw) (i:=kk) hkk (t:=pget p kk) rfl
      clear hSw
      go_simp;all_goals (with_reducible rfl)
     try simp only [Act.put,x2,x3,x4,x5,x6,x7]
     refine tk (i:=8) (v:=?_) rfl (Or.inl ⟨by rfl,?_⟩) ?_
     rotate_left;· rintro _ -;go_simp;all_goals (with_reducible rfl)
     try simp only [Act.put,x2,x3,x4,x5,x6,x7]
     refine tk (i:=9) (v:=?_) rfl (Or.inl ⟨by rfl,?_⟩) ?_
     rotate_left;· rintro _ -;go_simp;all_goals (with_reducible rfl)
     try simp only [Act.put,x2,x3,x4,x5,x6,x7]
     refine tk (i:=10) (v:=_) rfl (Or.inr ⟨by rfl,rfl⟩) ?_
     try simp only [Act.put,x2,x3,x4,x5,x6,x7]
     refine tk (i:=11) (v:=_) rfl (Or.inr ⟨by rfl,rfl⟩) ?_
     try simp only [Act.put,x2,x3,x4,x5,x6,x7]
     refine tk (i:=12) (v:=_) rfl (Or.inr ⟨by rfl,rfl⟩) ?_
     try simp only [Act.put,x2,x3,x4,x5,x6,x7]
     refine tk (i:=13) (v:=_) rfl (Or.inr ⟨by rfl,rfl⟩) ?_
     try simp only [Act.put,x2,x3,x4,x5,x6,x7]
     refine tk (i:=14) (v:=_) rfl (Or.inr ⟨by rfl,rfl⟩) ?_
     try simp only [Act.put,x2,x3,x4,x5,x6,x7]
     refine tk (i:=15) (v:=_) rfl (Or.inr ⟨by rfl,rfl⟩) ?_
     try simp only [Act.put,x2,x3,x4,x5,x6,x7]
     refine tk (i:=16) (v:=_) rfl (Or.inr ⟨by rfl,rfl⟩) ?_
     try simp only [Act.put,x2,x3,x4,x5,x6,x7]
     refine tk (i:=17) (v:=?_) rfl (Or.inl ⟨by rfl,?_⟩) ?_
     rotate_left;· rintro _ -;go_simp;all_goals (with_reducible rfl)
     try simp only [Act.put,x2,x3,x4,x5,x6,x7]
     refine wpAnyH_done (by kernel_rfl) ?_ _
     clear HI1 HB1
     obtain ⟨m1,m2,m3,m4⟩:=wnum (i:=m) (by omega)
     go_wp2_with fail
     clear m1 m2 m3 m4
     exact ⟨⟨m + 1,a,b,ok,by omega,rfl,rfl,rfl,by rw [Int.natCast_add];rfl,HT2.out,HI2.out,HB2.out⟩,by simp [intOf];omega⟩
    ·have hx':((pget p ii).x=(pget p kk).x)=False:=eq_false hx
     clear he
     go_wp2_with fail
     refine wp_region_held_drew (S:=fun V=>Below wr.heap.size wr V) (by kernel_rfl) ?_ (fun hHeld=>?_)
     ·exact bel_drew wr
     have HI1:=Lib.hid (HI.out.below (bel_drew _))
     have HB1:=Lib.hid HB.out.drew
     revert HI1
     revert HB1
     revert hHeld
     generalize World.drew _=W1
     intro hHeld HB1 HI1
     refine tk (i:=0) (v:=?_) rfl (Or.inl ⟨by rfl,?_⟩) ?_
     rotate_left;· rintro _ -;go_simp;all_goals (with_reducible rfl)
     try simp only [Act.put,x2,x4,x5,x6,x7]
     refine tk (i:=1) (v:=?_) rfl (Or.inl ⟨by rfl,?_⟩) ?_
     rotate_left;· rintro _ -;go_simp;all_goals (with_reducible rfl)
     try simp only [Act.put,x2,x3,x4,x5,x6,x7]
     refine tk (i:=2) (v:=?_) rfl (Or.inl ⟨by rfl,?_⟩) ?_
     rotate_left
     ·intro Wq hSw
      have s1:(m:Int) - 1=(m':Int):=by have:=HM.out;omega
      obtain ⟨m1,m2,m3,m4⟩:=wnum (i:=m') (by have:=HM.out;omega)
      clear hSw
      go_simp;all_goals (with_reducible rfl)
     try simp only [Act.put,x2,x3,x4,x5,x6,x7]
     refine tk (i:=3) (v:=?_) rfl (Or.inl ⟨by rfl,?_⟩) ?_
     rotate_left
     ·intro Wq hSw
      have b1:((m':Int) < (l.length:Int))=True:=eq_true (by omega)
      have d1:(m' < l.length)=True:=eq_true (by omega)
      have c1:((0:Int) ≤ (m':Int))=True:=eq_true (by omega)
      have d2:(m' < p.length)=True:=eq_true (by omega)
      clear hSw
      go_simp;all_goals (with_reducible rfl)
     try simp only [Act.put,x2,x3,x4,x5,x6,x7]
     refine tk (i:=4) (v:=?_) rfl (Or.inl ⟨by rfl,?_⟩) ?_
     rotate_left
     ·intro Wq hSw
      have k0:=intRow_at (HI.out.below hSw) (i:=m') hml' (t:=(ii:Int)) HEi.out
      clear hSw
      go_simp;all_goals (with_reducible rfl)
     try simp only [Act.put,x2,x3,x4,x5,x6,x7]
     refine tk (i:=5) (v:=?_) rfl (Or.inl ⟨by rfl,?_⟩) ?_
     rotate_left;· rintro _ -;go_simp;all_goals (with_reducible rfl)
     try simp only [Act.put,x2,x3,x4,x5,x6,x7]
     refine tk (i:=6) (v:=?_) rfl (Or.inl ⟨by rfl,?_⟩) ?_
     rotate_left;· rintro _ -;go_simp;all_goals (with_reducible rfl)
     try simp only [Act.put,x2,x3,x4,x5,x6,x7]
     refine tk (i:=7) (v:=?_) rfl (Or.inl ⟨by rfl,?_⟩) ?_
     rotate_left
     ·intro Wq hSw
      have b1:((m:Int) < (l.length:Int))=True:=eq_true (by omega)
      have d1:(m < l.length)=True:=eq_true (by omega)
      have c1:((0:Int) ≤ (m:Int))=True:=eq_true (by omega)
      have d2:(m < p.length)=True:=eq_true (by omega)
      clear hSw
      go_simp;all_goals (with_reducible rfl)
     try simp only [Act.put,x2,x3,x4,x5,x6,x7]
     refine tk (i:=8) (v:=?_) rfl (Or.inl ⟨by rfl,?_⟩) ?_
     rotate_left
     ·intro Wq hSw
      have k0:=intRow_at (HI.out.below hSw) (i:=m) hml (t:=(kk:Int)) HK.out
      clear hSw
      go_simp;all_goals (with_reducible rfl)
     try simp only [Act.put,x2,x3,x4,x5,x6,x7]
     refine tk (i:=9) (v:=?_) rfl (Or.inl ⟨by rfl,?_⟩) ?_
     rotate_left;· rintro _ -;go_simp;all_goals (with_reducible rfl)
     try simp only [Act.put,x2,x3,x4,x5,x6,x7]
     refine tk (i:=10) (v:=?_) rfl (Or.inl ⟨by rfl,?_⟩) ?_
     rotate_left;· rintro _ -;go_simp;all_goals (with_reducible rfl)
     try simp only [Act.put,x2,x3,x4,x5,x6,x7]
     refine wpAnyH_done (by kernel_rfl) ?_ _
     have HP1:=Lib.hid (HP0.out.below HB1.out)
     clear HI HB HP
     go_wp2_with fail
     refine wp_region_held_drew (S:=fun V=>Below W1.heap.size W1 V) (by kernel_rfl) ?_ (fun hHeld=>?_)
     ·exact bel_drew W1
     have HI2:=Lib.hid (HI1.out.below (bel_drew _))
     have HB2:=Lib.hid HB1.out.drew
     revert HI2
     revert HB2
     revert hHeld
     generalize World.drew _=W2
     intro hHeld HB2 HI2
     refine tk (i:=0) (v:=?_) rfl (Or.inl ⟨by rfl,?_⟩) ?_
     rotate_left;· rintro _ -;go_simp;all_goals (with_reducible rfl)
     try simp only [Act.put,x2,x4,x5,x6,x7]
     refine tk (i:=1) (v:=?_) rfl (Or.inl ⟨by rfl,?_⟩) ?_
     rotate_left;· rintro _ -;go_simp;all_goals (with_reducible rfl)
     try simp only [Act.put,x2,x3,x4,x5,x6,x7]
     refine tk (i:=2) (v:=?_) rfl (Or.inl ⟨by rfl,?_⟩) ?_
     rotate_left
     ·intro Wq hSw
      have b1:((ii:Int) < (p.length:Int))=True:=eq_true (by omega)
      have d1:(ii < p.length)=True:=eq_true (by omega)
      have c1:((0:Int) ≤ (ii:Int))=True:=eq_true (by omega)
      clear hSw
      go_simp;all_goals (with_reducible rfl)
     try simp only [Act.put,x2,x3,x4,x5,x6,x7]
     refine tk (i:=3) (v:=?_) rfl (Or.inl ⟨by rfl,?_⟩) ?_
     rotate_left
     ·intro Wq hSw
      obtain ⟨k0,k1⟩:=ptRow_at (HP1.out.below hSw) (i:=ii) hii (t:=pget p ii) rfl
      clear hSw
      go_simp;all_goals (with_reducible rfl)
     try simp only [Act.put,x2,x3,x4,x5,x6,x7]
     refine tk (i:=4) (v:=?_) rfl (Or.inl ⟨by rfl,?_⟩) ?_
     rotate_left;· rintro _ -;go_simp;all_goals (with_reducible rfl)
     try simp only [Act.put,x2,x3,x4,x5,x6,x7]
     refine tk (i:=5) (v:=?_) rfl (Or.inl ⟨by rfl,?_⟩) ?_
     rotate_left;· rintro _ -;go_simp;all_goals (with_reducible rfl)
     try simp only [Act.put,x2,x3,x4,x5,x6,x7]
     refine tk (i:=6) (v:=?_) rfl (Or.inl ⟨by rfl,?_⟩) ?_
     rotate_left
     ·intro Wq hSw
      have b1:((kk:Int) < (p.length:Int))=True:=eq_true (by omega)
      have d1:(kk < p.length)=True:=eq_true (by omega)
      have c1:((0:Int) ≤ (kk:Int))=True:=eq_true (by omega)
      clear hSw
      go_simp;all_goals (with_reducible rfl)
     try simp only [Act.put,x2,x3,x4,x5,x6,x7]
     refine tk (i:=7) (v:=?_) rfl (Or.inl ⟨by rfl,?_⟩) ?_
     rotate_left
     ·intro Wq hSw
      obtain ⟨k0,k1⟩:=ptRow_at (HP1.out.below hSw) (i:=kk) hkk (t:=pget p kk) rfl
      clear hSw
      go_simp;all_goals (with_reducible rfl)
     try simp only [Act.put,x2,x3,x4,x5,x6,x7]
     refine tk (i:=8) (v:=?_) rfl (Or.inl ⟨by rfl,?_⟩) ?_
     rotate_left;· rintro _ -;go_simp;all_goals (with_reducible rfl)
     try simp only [Act.put,x2,x3,x4,x5,x6,x7]
     refine tk (i:=9) (v:=?_) rfl (Or.inl ⟨by rfl,?_⟩) ?_
     rotate_left;· rintro _ -;go_simp;all_goals (with_reducible rfl)
     try simp only [Act.put,x2,x3,x4,x5,x6,x7]
     refine tk (i:=10) (v:=_) rfl (Or.inr ⟨by rfl,rfl⟩) ?_
     try simp only [Act.put,x2,x3,x4,x5,x6,x7]
     refine tk (i:=11) (v:=_) rfl (Or.inr ⟨by rfl,rfl⟩) ?_
     try simp only [Act.put,x2,x3,x4,x5,x6,x7]
     refine tk (i:=12) (v:=_) rfl (Or.inr ⟨by rfl,rfl⟩) ?_
     try simp only [Act.put,x2,x3,x4,x5,x6,x7]
     refine tk (i:=13) (v:=_) rfl (Or.inr ⟨by rfl,rfl⟩) ?_
     try simp only [Act.put,x2,x3,x4,x5,x6,x7]
     refine tk (i:=14) (v:=_) rfl (Or.inr ⟨by rfl,rfl⟩) ?_
     try simp only [Act.put,x2,x3,x4,x5,x6,x7]
     refine tk (i:=15) (v:=_) rfl (Or.inr ⟨by rfl,rfl⟩) ?_
     try simp only [Act.put,x2,x3,x4,x5,x6,x7]
     refine tk (i:=16) (v:=_) rfl (Or.inr ⟨by rfl,rfl⟩) ?_
     try simp only [Act.put,x2,x3,x4,x5,x6,x7]
     refine tk (i:=17) (v:=?_) rfl (Or.inl ⟨by rfl,?_⟩) ?_
     rotate_left;· rintro _ -;go_simp;all_goals (with_reducible rfl)
     try simp only [Act.put,x2,x3,x4,x5,x6,x7]
     refine wpAnyH_done (by kernel_rfl) ?_ _
     clear HI1 HB1
     obtain ⟨m1,m2,m3,m4⟩:=wnum (i:=m) (by omega)
     go_wp2_with fail
     clear m1 m2 m3 m4
     exact ⟨⟨m + 1,a,b,ok,by omega,rfl,rfl,rfl,by rw [Int.natCast_add];rfl,HT2.out,HI2.out,HB2.out⟩,by simp [intOf];omega⟩
  ·have b0:((m:Int) < (l.length:Int))=False:=eq_false (by omega)
   go_wp2_with fail
   go_ret3
   exact ⟨a,b,ok,rfl,HT.out.done HOR.out (by omega),HB.out⟩
end Go.Proofs.YtpjaefcmaiimlaaGreat
