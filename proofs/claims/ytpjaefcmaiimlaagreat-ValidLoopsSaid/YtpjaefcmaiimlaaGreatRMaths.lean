/-
  The plain mathematics of layer 8: ends, neighbours, closed loops.
-/
import Derived.Test.YtpjaefcmaiimlaaGreatGeoMath
set_option linter.unusedVariables false
set_option linter.unusedSimpArgs false
set_option linter.deprecated false
namespace Go.Proofs.YtpjaefcmaiimlaaGreat

/-- a segment of two different places of 0 .. n - 1 -/
def okS (n:Int) (s:Pt):Prop:=0 ≤ s.x∧0 ≤ s.y∧s.x < n∧s.y < n∧s.x ≠ s.y
instance (n:Int) (s:Pt):Decidable (okS n s):=by unfold okS;exact inferInstance
def okL (n:Int) (l:List Pt):Prop:=0 ≤ n∧n ≤ 1048576∧∀ s ∈ l,okS n s
instance (n:Int) (l:List Pt):Decidable (okL n l):=by unfold okL;exact inferInstance
/-- what a segment leads to from a place -/
def nb1 (s:Pt) (p:Int):List Int:=(if s.x=p then [s.y] else []) ++ (if s.y=p then [s.x] else [])
/-- the places next to one, in the segments' order -/
def nbs (l:List Pt) (p:Int):List Int:=l.flatMap fun s=>nb1 s p
def deg (l:List Pt) (p:Int):Nat:=(nbs l p).length
def degs (n:Nat) (l:List Pt):List Int:=(List.range n).map fun p:Nat=>(deg l (p:Int):Int)
theorem degs_len (n:Nat) (l:List Pt):(degs n l).length=n:=by simp [degs]
theorem degs_at {n:Nat} {l:List Pt} {p:Nat} (h:p < (degs n l).length):(degs n l)[p]=(deg l (p:Int):Int):=by simp [degs]
theorem nbs_snoc (l:List Pt) (s:Pt) (p:Int):nbs (l ++ [s]) p=nbs l p ++ nb1 s p:=by simp [nbs,List.flatMap_append]
theorem degs_nil (n:Nat):degs n []=List.replicate n 0:=by
 apply List.ext_getElem
 ·simp [degs]
 ·intro i h1 h2
  simp [degs,deg,nbs]
theorem degs_snoc {n:Nat} {l:List Pt} {s:Pt} {a b:Nat} (ha:s.x=(a:Int)) (hb:s.y=(b:Int)) (hab:a ≠ b) (_:a < n) (_:b < n) :
  ((degs n l).set a ((deg l (a:Int):Int) + 1)).set b ((deg l (b:Int):Int) + 1)=degs n (l ++ [s]):=by
 apply List.ext_getElem
 ·simp [degs]
 ·intro i h1 h2
  rw [degs_at]
  simp only [List.getElem_set]
  have hi:i < n:=by simpa [degs] using h2
  unfold deg
  rw [nbs_snoc]
  unfold nb1
  rw [ha,hb]
  by_cases e1:b=i
  ·subst e1
   rw [if_pos rfl,if_neg (by omega),if_pos rfl]
   simp
  ·rw [if_neg e1,if_neg (show ¬ ((b:Int)=(i:Int)) by omega)]
   by_cases e2:a=i
   ·subst e2
    rw [if_pos rfl,if_pos rfl]
    simp
   ·rw [if_neg e2,if_neg (show ¬ ((a:Int)=(i:Int)) by omega)]
    simp [degs,deg]
theorem mem_nb1 {s:Pt} {p q:Int}:q ∈ nb1 s p ↔ (s.x=p∧s.y=q) ∨ (s.y=p∧s.x=q):=by
 unfold nb1
 by_cases h1:s.x=p <;> by_cases h2:s.y=p <;> simp [h1,h2,eq_comm]
theorem mem_nbs {l:List Pt} {p q:Int}:q ∈ nbs l p ↔ ∃ s ∈ l,(s.x=p∧s.y=q) ∨ (s.y=p∧s.x=q):=by
 unfold nbs
 rw [List.mem_flatMap]
 exact ⟨fun ⟨s,h,k⟩=>⟨s,h,mem_nb1.1 k⟩,fun ⟨s,h,k⟩=>⟨s,h,mem_nb1.2 k⟩⟩
theorem nbs_sym {l:List Pt} {p q:Int}:q ∈ nbs l p ↔ p ∈ nbs l q:=by
 rw [mem_nbs,mem_nbs]
 exact ⟨fun ⟨s,h,k⟩=>⟨s,h,k.elim (fun h=>.inr ⟨h.2,h.1⟩) (fun h=>.inl ⟨h.2,h.1⟩)⟩,fun ⟨s,h,k⟩=>⟨s,h,k.elim (fun h=>.inr ⟨h.2,h.1⟩) (fun h=>.inl ⟨h.2,h.1⟩)⟩⟩
/-- a segment's ends, the lesser one first -/
def norm (s:Pt):Pt:=⟨min s.x s.y,max s.x s.y⟩
theorem norm_eq {s t:Pt}:norm s=norm t ↔ (s.x=t.x∧s.y=t.y) ∨ (s.x=t.y∧s.y=t.x):=by
 unfold norm
 constructor
 ·intro h
  injection h with h1 h2
  omega
 ·rintro (⟨h1,h2⟩ | ⟨h1,h2⟩)
  ·rw [h1,h2]
  ·rw [h1,h2,Int.min_comm,Int.max_comm]
/-- is one of an earlier number like it? -/
def seenB (l:List Pt) (i:Nat):Bool:=(l.take i).any fun t=>decide (norm t=norm (l.getD i ⟨0,0⟩))
/-- the first number of 0 .. n - 1 for which q holds; -1: none -/
def firstN (q:Nat → Bool) (n:Nat):Int:=((List.range n).find? q).elim (-1) fun i=>(i:Int)
theorem firstN_no {q:Nat → Bool} {n:Nat} (h:∀ i,i < n → q i=false):firstN q n = -1:=by
 unfold firstN
 rw [List.find?_eq_none.2 (fun x hx=>by rw [h x (List.mem_range.1 hx)];simp)]
 rfl
theorem firstN_at {q:Nat → Bool} {n k:Nat} (hk:k < n) (hq:q k=true) (h:∀ i,i < k → q i=false):firstN q n=(k:Int):=by
 unfold firstN
 rw [List.find?_range_eq_some.2 ⟨hq,List.mem_range.2 hk,fun j hj=>by rw [h j hj];rfl⟩]
 rfl
theorem firstN_cases (q:Nat → Bool) (n:Nat):(firstN q n = -1∧∀ i,i < n → q i=false) ∨ ∃ k,k < n∧firstN q n=(k:Int)∧q k=true∧∀ i,i < k → q i=false:=by
 by_cases h:∃ k,k < n∧q k=true
 ·have key:∀ m,(∃ k,k < m∧q k=true) → ∃ k,k < m∧q k=true∧∀ i,i < k → q i=false:=by
   intro m
   induction m with
   | zero=>rintro ⟨k,h,-⟩;omega
   | succ m ih=>
    intro ⟨k,h1,h2⟩
    by_cases h3:∃ k,k < m∧q k=true
    ·obtain ⟨k,a,b,c⟩:=ih h3
     exact ⟨k,by omega,b,c⟩
    ·refine ⟨k,h1,h2,fun i hi=>?_⟩
     cases e:q i with
     | false=>rfl
     | true=>exact absurd ⟨i,by omega,e⟩ h3
  obtain ⟨k,a,b,c⟩:=key n h
  exact .inr ⟨k,a,firstN_at a b c,b,c⟩
 ·refine .inl ⟨firstN_no ?_,?_⟩ <;>
  ·intro i hi
   cases e:q i with
   | false=>rfl
   | true=>exact absurd ⟨i,hi,e⟩ h
def againF (l:List Pt):Int:=firstN (seenB l) l.length
def forkB (l:List Pt) (p:Nat):Bool:=decide (deg l (p:Int) ≠ 0) && decide (deg l (p:Int) ≠ 2)
def forkF (n:Nat) (l:List Pt):Int:=firstN (forkB l) n
/-- the two that were joined last -/
def pr (l:List Pt) (p:Int):Pt:=(nbs l p).foldl (fun t q=>⟨t.y,q⟩) ⟨0,0⟩

/-! ### loops -/
def nextF (K:Int → Pt) (b p:Int):Int:=if (K p).x=b then (K p).y else (K p).x
def loopF (K:Int → Pt) (f:Int):Nat → Int → Int → List Int
 | 0,_,_=>[]
 | k + 1,b,p=>if p=f then [] else p :: loopF K f k p (nextF K b p)
def ringF (K:Int → Pt) (n:Nat) (f:Int):List Int:=f :: loopF K f n f (min (K f).x (K f).y)
def ringsTo (K:Int → Pt) (n:Nat):Nat → List (List Int)
 | 0=>[]
 | m + 1=>if (ringsTo K n m).any (fun r=>r.contains (m:Int)) || decide ((K (m:Int)).x=(K (m:Int)).y) then ringsTo K n m else ringsTo K n m ++ [ringF K n (m:Int)]
def ringsR (n:Int) (l:List Pt):List (List Int) × Int × Int:=
 if okL n l then
  if 0 ≤ againF l then ([],againF l,80)
  else if 0 ≤ forkF n.toNat l then ([],forkF n.toNat l,81)
  else (ringsTo (pr l) n.toNat n.toNat,0,0)
 else ([],0,2)

/-- two neighbours each, or none -/
def Net (K:Int → Pt) (n:Int):Prop:=∀ p,0 ≤ p → p < n → (K p).x ≠ (K p).y → ∀ q,(q=(K p).x ∨ q=(K p).y) → 0 ≤ q∧q < n∧q ≠ p∧(K q).x ≠ (K q).y∧(p=(K q).x ∨ p=(K q).y)
/-- where a loop is on its way: R so far, b its last place, p the next one, c the one ahead of b -/
structure Way (K:Int → Pt) (n:Int) (f:Int) (R:List Int) (b p c:Int):Prop where
 nod:R.Nodup
 inn:∀ r ∈ R,0 ≤ r∧r < n∧(K r).x ≠ (K r).y
 hf:f ∈ R
 hb:b ∈ R
 hp:p=(K b).x ∨ p=(K b).y
 two:b ≠ f → c ∈ R∧c ≠ p∧(c=(K b).x ∨ c=(K b).y)
 shut:∀ r ∈ R,r ≠ f → r ≠ b → (K r).x ∈ R∧(K r).y ∈ R
 far:∀ r ∈ R,r ≠ f → r ≠ b → r ≠ c → ¬ (b=(K r).x ∨ b=(K r).y)
 one:b=f → R=[f]
theorem Way.start {K:Int → Pt} {n f:Int} (h0:0 ≤ f) (h1:f < n) (h2:(K f).x ≠ (K f).y) {p:Int} (hp:p=(K f).x ∨ p=(K f).y):Way K n f [f] f p f:=
 ⟨by simp,by simp;exact ⟨h0,h1,h2⟩,by simp,by simp,hp,fun h=>absurd rfl h,fun r hr h=>absurd (by simpa using hr) h,fun r hr h=>absurd (by simpa using hr) h,fun _=>rfl⟩
theorem Way.fresh {K:Int → Pt} {n f:Int} {R:List Int} {b p c:Int} (N:Net K n) (h:Way K n f R b p c) (hpf:p ≠ f):p ∉ R:=by
 intro hR
 obtain ⟨b0,b1,b2⟩:=h.inn b h.hb
 obtain ⟨p0,p1,p2,p3,p4⟩:=N b b0 b1 b2 p h.hp
 by_cases hc:p=c
 ·by_cases hbf:b=f
  ·have:=h.one hbf
   rw [this] at hR
   exact hpf (by simpa using hR)
  ·exact (h.two hbf).2.1 hc.symm
 ·exact h.far p hR hpf p2 hc p4
theorem Way.step {K:Int → Pt} {n f:Int} {R:List Int} {b p c:Int} (N:Net K n) (h:Way K n f R b p c) (hpf:p ≠ f):Way K n f (R ++ [p]) p (nextF K b p) b:=by
 have hfr:=h.fresh N hpf
 obtain ⟨b0,b1,b2⟩:=h.inn b h.hb
 obtain ⟨p0,p1,p2,p3,p4⟩:=N b b0 b1 b2 p h.hp
 have hne:∀ r ∈ R,r ≠ p:=fun r hr e=>hfr (e ▸ hr)
 refine ⟨?_,?_,by simp [h.hf],by simp,?_,?_,?_,?_,fun e=>absurd e hpf⟩
 ·rw [List.nodup_append]
  exact ⟨h.nod,by simp,fun a ha b hb=>by simp at hb;subst hb;exact hne a ha⟩
 ·intro r hr
  rcases List.mem_append.1 hr with h1 | h1
  ·exact h.inn r h1
  ·simp at h1
   subst h1
   exact ⟨p0,p1,p3⟩
 ·unfold nextF
  split
  ·exact .inr rfl
  ·exact .inl rfl
 ·intro _
  refine ⟨by simp [h.hb],?_,p4⟩
  unfold nextF
  split
  ·next e=>intro e2;exact p3 (e.trans e2)
  ·next e=>exact fun e2=>e e2.symm
 ·intro r hr hrf hrp
  rcases List.mem_append.1 hr with h1 | h1
  ·by_cases hrb:r=b
   ·subst hrb
    obtain ⟨t1,t2,t3⟩:=h.two hrf
    constructor
    ·rcases h.hp with e | e
     ·rw [← e];simp
     ·rcases t3 with e3 | e3
      ·rw [← e3];simp [t1]
      ·exact absurd (e3.trans e.symm) t2
    ·rcases h.hp with e | e
     ·rcases t3 with e3 | e3
      ·exact absurd (e3.trans e.symm) t2
      ·rw [← e3];simp [t1]
     ·rw [← e];simp
   ·obtain ⟨s1,s2⟩:=h.shut r h1 hrf hrb
    exact ⟨List.mem_append_left _ s1,List.mem_append_left _ s2⟩
  ·simp at h1
   exact absurd h1 hrp
 ·intro r hr hrf hrp hrb
  rcases List.mem_append.1 hr with h1 | h1
  ·obtain ⟨s1,s2⟩:=h.shut r h1 hrf hrb
   rintro (e | e)
   ·exact hfr (e ▸ s1)
   ·exact hfr (e ▸ s2)
  ·simp at h1
   exact absurd h1 hrp
/-- places below n, each once, are n at most -/
theorem nodup_le:∀ {n:Nat} {R:List Int},R.Nodup → (∀ r ∈ R,0 ≤ r∧r < (n:Int)) → R.length ≤ n
 | 0,[],_,_=>Nat.le_refl _
 | 0,r :: R,_,hi=>by
  have:=hi r (by simp)
  omega
 | n + 1,R,h,hi=>by
  by_cases m:(n:Int) ∈ R
  ·have h2:=nodup_le (n:=n) (h.erase (n:Int)) (fun r hr=>by
    have h3:=(List.Nodup.mem_erase_iff h).1 hr
    have h4:=hi r h3.2
    have h5:=h3.1
    omega)
   rw [List.length_erase_of_mem m] at h2
   omega
  ·have h2:=nodup_le (n:=n) h (fun r hr=>by
    have h4:=hi r hr
    have h5:r ≠ (n:Int):=fun e=>m (e ▸ hr)
    omega)
   omega
theorem Way.len {K:Int → Pt} {n:Nat} {f:Int} {R:List Int} {b p c:Int} (h:Way K (n:Int) f R b p c):R.length ≤ n:=nodup_le h.nod fun r hr=>⟨(h.inn r hr).1,(h.inn r hr).2.1⟩
theorem Way.more {K:Int → Pt} {n:Nat} {f:Int} {R:List Int} {b p c:Int} (N:Net K (n:Int)) (h:Way K (n:Int) f R b p c) (hpf:p ≠ f):R.length + 1 ≤ n:=by
 have:=(h.step N hpf).len
 simpa using this
/-- what is still to come -/
theorem loopF_step {K:Int → Pt} {f b p:Int} {k:Nat} (h:p ≠ f):loopF K f (k + 1) b p=p :: loopF K f k p (nextF K b p):=by rw [loopF,if_neg h]
theorem loopF_end {K:Int → Pt} {f b:Int} {k:Nat}:loopF K f k b f=[]:=by
 cases k with
 | zero=>rfl
 | succ k=>rw [loopF,if_pos rfl]
end Go.Proofs.YtpjaefcmaiimlaaGreat

/-
  The plain mathematics of layer 8: where each place has two neighbours, or none.
-/
namespace Go.Proofs.YtpjaefcmaiimlaaGreat

theorem nbs_cons (s:Pt) (l:List Pt) (p:Int):nbs (s :: l) p=nb1 s p ++ nbs l p:=by simp [nbs]
theorem norm_of_nb {s t:Pt} {p q:Int} (h1:q ∈ nb1 s p) (h2:q ∈ nb1 t p):norm t=norm s:=by
 rw [mem_nb1] at h1 h2
 rw [norm_eq]
 omega
theorem nbs_nodup:∀ {l:List Pt} {p:Int},(l.map norm).Nodup → (∀ s ∈ l,s.x ≠ s.y) → (nbs l p).Nodup
 | [],p,_,_=>by simp [nbs]
 | s :: l,p,h,hs=>by
  rw [List.map_cons,List.nodup_cons] at h
  rw [nbs_cons,List.nodup_append]
  refine ⟨?_,nbs_nodup h.2 (fun t ht=>hs t (List.mem_cons_of_mem _ ht)),?_⟩
  ·have:=hs s (by simp)
   unfold nb1
   by_cases h1:s.x=p
   ·rw [if_pos h1,if_neg (by omega)]
    simp
   ·rw [if_neg h1]
    split <;> simp
  ·rintro q hq q' hq' rfl
   unfold nbs at hq'
   obtain ⟨t,ht,hk⟩:=List.mem_flatMap.1 hq'
   refine h.1 (List.mem_map.2 ⟨t,ht,norm_of_nb hq hk⟩)
theorem seenB_iff {l:List Pt} {i:Nat} (hi:i < l.length):seenB l i=true ↔ ∃ k,∃ h:k < i,norm (l[k]'(by omega))=norm l[i]:=by
 unfold seenB
 rw [List.any_eq_true]
 have e:l.getD i ⟨0,0⟩=l[i]:=by simp [hi]
 rw [e]
 constructor
 ·rintro ⟨t,ht,h2⟩
  obtain ⟨k,hk,rfl⟩:=List.mem_iff_getElem.1 ht
  rw [List.length_take] at hk
  refine ⟨k,by omega,?_⟩
  have:=of_decide_eq_true h2
  simpa using this
 ·rintro ⟨k,hk,h⟩
  refine ⟨l[k]'(by omega),?_,decide_eq_true h⟩
  rw [List.mem_iff_getElem]
  exact ⟨k,by rw [List.length_take];omega,by simp⟩
theorem nodup_norm {l:List Pt} (h:∀ i,i < l.length → seenB l i=false):(l.map norm).Nodup:=by
 rw [List.Nodup,List.pairwise_iff_getElem]
 intro i j hi hj hij e
 simp only [List.length_map] at hi hj
 have:=h j hj
 rw [(seenB_iff hj).2 ⟨i,hij,by simpa using e⟩] at this
 cases this
theorem seen_of_not {l:List Pt} (h:(l.map norm).Nodup) {i:Nat} (hi:i < l.length):seenB l i=false:=by
 cases e:seenB l i with
 | false=>rfl
 | true=>
  obtain ⟨k,hk,e2⟩:=(seenB_iff hi).1 e
  rw [List.Nodup,List.pairwise_iff_getElem] at h
  have:=h k i (by simp;omega) (by simpa using hi) hk
  simp at this
  exact absurd e2 this
/-- loops, and nothing else -/
structure Good (n:Nat) (l:List Pt):Prop where
 ok:okL (n:Int) l
 nod:(l.map norm).Nodup
 two:∀ p:Int,0 ≤ p → p < (n:Int) → nbs l p=[] ∨ ∃ a b,nbs l p=[a,b]
theorem len2 {α:Type} {l:List α} (h:l.length=2):∃ a b,l=[a,b]:=by
 match l,h with
 | [a,b],_=>exact ⟨a,b,rfl⟩
theorem good_of {n:Nat} {l:List Pt} (h:okL (n:Int) l) (ha:againF l < 0) (hf:forkF n l < 0):Good n l:=by
 refine ⟨h,nodup_norm ?_,?_⟩
 ·rcases firstN_cases (seenB l) l.length with ⟨-,k⟩ | ⟨k,-,e,-⟩
  ·exact k
  ·unfold againF at ha;omega
 ·intro p h0 h1
  obtain ⟨q,rfl⟩:=Int.eq_ofNat_of_zero_le h0
  rcases firstN_cases (forkB l) n with ⟨-,k⟩ | ⟨k,-,e,-⟩
  ·have:=k q (by omega)
   unfold forkB deg at this
   simp at this
   by_cases h2:nbs l (q:Int)=[]
   ·exact .inl h2
   ·exact .inr (len2 (this h2))
  ·unfold forkF at hf;omega
theorem Good.nbn {n:Nat} {l:List Pt} (h:Good n l) (p:Int):(nbs l p).Nodup:=nbs_nodup h.nod fun s hs=>(h.ok.2.2 s hs).2.2.2.2
theorem pr_nil {l:List Pt} {p:Int} (h:nbs l p=[]):pr l p=⟨0,0⟩:=by unfold pr;rw [h];rfl
theorem pr_two {l:List Pt} {p a b:Int} (h:nbs l p=[a,b]):pr l p=⟨a,b⟩:=by unfold pr;rw [h];rfl
theorem Good.cases {n:Nat} {l:List Pt} (h:Good n l) {p:Int} (h0:0 ≤ p) (h1:p < (n:Int)):(nbs l p=[]∧(pr l p).x=(pr l p).y) ∨ (nbs l p=[(pr l p).x,(pr l p).y]∧(pr l p).x ≠ (pr l p).y):=by
 rcases h.two p h0 h1 with e | ⟨a,b,e⟩
 ·exact .inl ⟨e,by rw [pr_nil e]⟩
 ·refine .inr ⟨by rw [pr_two e];exact e,?_⟩
  have:=h.nbn p
  rw [e] at this
  rw [pr_two e]
  simp at this
  exact this
theorem nbs_in {n:Int} {l:List Pt} (h:okL n l) {p q:Int} (hq:q ∈ nbs l p):0 ≤ q∧q < n∧q ≠ p∧0 ≤ p∧p < n:=by
 obtain ⟨s,hs,k⟩:=mem_nbs.1 hq
 have:=h.2.2 s hs
 unfold okS at this
 omega
theorem Good.mem {n:Nat} {l:List Pt} (h:Good n l) {p q:Int} (h0:0 ≤ p) (h1:p < (n:Int)) (h2:(pr l p).x ≠ (pr l p).y):q ∈ nbs l p ↔ q=(pr l p).x ∨ q=(pr l p).y:=by
 rcases h.cases h0 h1 with ⟨-,e⟩ | ⟨e,-⟩
 ·exact absurd e h2
 ·rw [e];simp
theorem Good.net {n:Nat} {l:List Pt} (h:Good n l):Net (pr l) (n:Int):=by
 intro p h0 h1 h2 q hq
 have hm:=(h.mem h0 h1 h2).2 hq
 obtain ⟨q0,q1,q2,-,-⟩:=nbs_in h.ok hm
 have hs:=nbs_sym.1 hm
 refine ⟨q0,q1,q2,?_,?_⟩
 ·rcases h.cases q0 q1 with ⟨e,-⟩ | ⟨-,e⟩
  ·rw [e] at hs;cases hs
  ·exact e
 ·rcases h.cases q0 q1 with ⟨e,-⟩ | ⟨e,-⟩
  ·rw [e] at hs;cases hs
  ·rw [e] at hs;simpa using hs
theorem pr_snoc (l:List Pt) (s:Pt) (hs:s.x ≠ s.y) (p:Int):pr (l ++ [s]) p=if s.x=p then ⟨(pr l p).y,s.y⟩ else if s.y=p then ⟨(pr l p).y,s.x⟩ else pr l p:=by
 unfold pr
 rw [nbs_snoc,List.foldl_append]
 unfold nb1
 by_cases h1:s.x=p
 ·rw [if_pos h1,if_neg (by omega),if_pos h1];rfl
 ·rw [if_neg h1,if_neg h1]
  by_cases h2:s.y=p
  ·rw [if_pos h2,if_pos h2];rfl
  ·rw [if_neg h2,if_neg h2];rfl
/-- the table of neighbours -/
def prs (n:Nat) (l:List Pt):List Pt:=(List.range n).map fun p:Nat=>pr l (p:Int)
theorem prs_len (n:Nat) (l:List Pt):(prs n l).length=n:=by simp [prs]
theorem prs_nil (n:Nat):prs n []=List.replicate n ⟨0,0⟩:=by
 apply List.ext_getElem
 ·simp [prs]
 ·intro i h1 h2
  simp [prs,pr,nbs]
theorem prs_snoc {n:Nat} {l:List Pt} {s:Pt} {a b:Nat} (ha:s.x=(a:Int)) (hb:s.y=(b:Int)) (hab:a ≠ b) (_:a < n) (_:b < n) :
  ((prs n l).set a ⟨(pr l (a:Int)).y,(b:Int)⟩).set b ⟨(pr l (b:Int)).y,(a:Int)⟩=prs n (l ++ [s]):=by
 apply List.ext_getElem
 ·simp [prs]
 ·intro i h1 h2
  simp only [List.getElem_set,prs,List.getElem_map,List.getElem_range]
  rw [pr_snoc l s (by omega),ha,hb]
  by_cases e1:b=i
  ·subst e1
   rw [if_pos rfl,if_neg (by omega),if_pos rfl]
  ·rw [if_neg e1]
   by_cases e2:a=i
   ·subst e2
    rw [if_pos rfl,if_pos rfl]
   ·rw [if_neg e2,if_neg (by omega),if_neg (by omega)]
end Go.Proofs.YtpjaefcmaiimlaaGreat

/-
  The plain mathematics of layer 8: what a whole loop holds.
-/
namespace Go.Proofs.YtpjaefcmaiimlaaGreat

theorem way_end {K:Int → Pt} {n:Nat} {f:Int} (N:Net K (n:Int)):∀ (k:Nat) (R:List Int) (b p c:Int),Way K (n:Int) f R b p c → n + 1 - R.length ≤ k → ∃ b' c',Way K (n:Int) f (R ++ loopF K f k b p) b' f c'
 | 0,R,b,p,c,h,hk=>by
  have:=h.len
  omega
 | k + 1,R,b,p,c,h,hk=>by
  by_cases hp:p=f
  ·subst hp
   rw [loopF_end,List.append_nil]
   exact ⟨b,c,h⟩
  ·have h2:=h.step N hp
   obtain ⟨b',c',h3⟩:=way_end N k _ _ _ _ h2 (by simp;omega)
   refine ⟨b',c',?_⟩
   rw [loopF_step hp,show R ++ p :: loopF K f k p (nextF K b p)=(R ++ [p]) ++ loopF K f k p (nextF K b p) by simp]
   exact h3
theorem ring_way {K:Int → Pt} {n:Nat} {f:Int} (N:Net K (n:Int)) (h0:0 ≤ f) (h1:f < (n:Int)) (h2:(K f).x ≠ (K f).y):∃ b c,Way K (n:Int) f (ringF K n f) b f c:=by
 have hp:min (K f).x (K f).y=(K f).x ∨ min (K f).x (K f).y=(K f).y:=by omega
 exact way_end N n [f] f _ f (Way.start h0 h1 h2 hp) (by simp)
theorem ring_in {K:Int → Pt} {n:Nat} {f:Int} (N:Net K (n:Int)) (h0:0 ≤ f) (h1:f < (n:Int)) (h2:(K f).x ≠ (K f).y) {r:Int} (hr:r ∈ ringF K n f):0 ≤ r∧r < (n:Int)∧(K r).x ≠ (K r).y:=by
 obtain ⟨b,c,h⟩:=ring_way N h0 h1 h2
 exact h.inn r hr
theorem ring_len {K:Int → Pt} {n:Nat} {f:Int} (N:Net K (n:Int)) (h0:0 ≤ f) (h1:f < (n:Int)) (h2:(K f).x ≠ (K f).y):(ringF K n f).length ≤ n:=by
 obtain ⟨b,c,h⟩:=ring_way N h0 h1 h2
 exact h.len
theorem ringsTo_skip {K:Int → Pt} {n m:Nat} (h:((ringsTo K n m).any (fun r=>r.contains (m:Int)) || decide ((K (m:Int)).x=(K (m:Int)).y))=true):ringsTo K n (m + 1)=ringsTo K n m:=by rw [ringsTo,if_pos h]
theorem ringsTo_new {K:Int → Pt} {n m:Nat} (h:((ringsTo K n m).any (fun r=>r.contains (m:Int)) || decide ((K (m:Int)).x=(K (m:Int)).y))=false):ringsTo K n (m + 1)=ringsTo K n m ++ [ringF K n (m:Int)]:=by rw [ringsTo,if_neg (by rw [h];simp)]
theorem ringsTo_len (K:Int → Pt) (n:Nat):∀ m,(ringsTo K n m).length ≤ m
 | 0=>Nat.le_refl _
 | m + 1=>by
  have:=ringsTo_len K n m
  rw [ringsTo]
  split
  ·omega
  ·simp;omega
end Go.Proofs.YtpjaefcmaiimlaaGreat
