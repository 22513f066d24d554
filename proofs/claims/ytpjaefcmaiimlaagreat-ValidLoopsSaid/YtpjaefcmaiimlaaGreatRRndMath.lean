/-
  The plain mathematics of RingsRound: places in a row are one loop; a whole loop is closed.
-/
import Derived.Test.YtpjaefcmaiimlaaGreatROrdMath
import Derived.Test.YtpjaefcmaiimlaaGreatRSegsAll
set_option linter.unusedVariables false
set_option linter.unusedSimpArgs false
set_option linter.deprecated false
namespace Go.Proofs.YtpjaefcmaiimlaaGreat

/-- a whole loop holds the first step -/
theorem way_end2 {K:Int → Pt} {n:Nat} {f q:Int} (N:Net K (n:Int)):∀ (k:Nat) (R:List Int) (b p c:Int),Way K (n:Int) f R b p c → (R=[f] → p=q) → (R=[f] ∨ q ∈ R) → (b=q → c=f) → n + 1 - R.length ≤ k →
  ∃ b' c',Way K (n:Int) f (R ++ loopF K f k b p) b' f c'∧(R ++ loopF K f k b p=[f] ∨ q ∈ R ++ loopF K f k b p)∧(b'=q → c'=f)
 | 0,R,b,p,c,h,_,_,_,hk=>by
  have:=h.len
  omega
 | k + 1,R,b,p,c,h,h1,h2,h3,hk=>by
  by_cases hp:p=f
  ·subst hp
   rw [loopF_end,List.append_nil]
   exact ⟨b,c,h,h2,h3⟩
  ·have hs:=h.step N hp
   have hfr:=h.fresh N hp
   have hne:R ++ [p] ≠ [f]:=by
    intro e
    have h9:=h.hf
    match R,h9 with
    | x :: R',_=>simp at e
   have e3:p=q → b=f:=fun e=>by
    rcases h2 with e2 | e2
    ·have:=h.hb
     rw [e2] at this
     simpa using this
    ·exact absurd (e ▸ e2) hfr
   have e2:q ∈ R ++ [p]:=by
    rcases h2 with e2 | e2
    ·rw [← h1 e2];simp
    ·exact List.mem_append_left _ e2
   obtain ⟨b',c',w,x,y⟩:=way_end2 N k _ _ _ _ hs (fun e=>absurd e hne) (.inr e2) e3 (by simp;omega)
   rw [loopF_step hp,show R ++ p :: loopF K f k p (nextF K b p)=(R ++ [p]) ++ loopF K f k p (nextF K b p) by simp]
   exact ⟨b',c',w,x,y⟩
theorem ring_closed {K:Int → Pt} {n:Nat} {f:Int} (N:Net K (n:Int)) (h0:0 ≤ f) (h1:f < (n:Int)) (h2:(K f).x ≠ (K f).y):∀ r ∈ ringF K n f,(K r).x ∈ ringF K n f∧(K r).y ∈ ringF K n f:=by
 have hp:min (K f).x (K f).y=(K f).x ∨ min (K f).x (K f).y=(K f).y:=by omega
 have hq:=N f h0 h1 h2 _ hp
 obtain ⟨b,c,w,x,y⟩:=way_end2 (q:=min (K f).x (K f).y) N n [f] f _ f (Way.start h0 h1 h2 hp) (fun _=>rfl) (.inl rfl) (fun _=>rfl) (by simp)
 have e:[f] ++ loopF K f n f (min (K f).x (K f).y)=ringF K n f:=rfl
 rw [e] at w x
 have hbi:=w.inn b w.hb
 have hfb:=N b hbi.1 hbi.2.1 hbi.2.2 f w.hp
 have hbf:b ≠ f:=fun e=>hfb.2.2.1 e.symm
 obtain ⟨c1,c2,c3⟩:=w.two hbf
 have hpp:=w.hp
 have hbq:b ≠ min (K f).x (K f).y:=fun e=>c2 (y e)
 have hqR:min (K f).x (K f).y ∈ ringF K n f:=by
  rcases x with e2 | e2
  ·have:=w.hb
   rw [e2] at this
   exact absurd (by simpa using this) hbf
  ·exact e2
 have hb:=w.hb
 intro r hr
 by_cases e1:r=f
 ·subst e1
  have h5:=hfb.2.2.2.2
  constructor
  ·rcases h5 with e3 | e3
   ·rw [← e3];exact hb
   ·rcases hp with e4 | e4
    ·rw [← e4];exact hqR
    ·exact absurd (e3.trans e4.symm) hbq
  ·rcases h5 with e3 | e3
   ·rcases hp with e4 | e4
    ·exact absurd (e3.trans e4.symm) hbq
    ·rw [← e4];exact hqR
   ·rw [← e3];exact hb
 ·by_cases e2:r=b
  ·subst e2
   have hf:=w.hf
   constructor
   ·rcases hpp with e3 | e3
    ·rw [← e3];exact hf
    ·rcases c3 with e4 | e4
     ·rw [← e4];exact c1
     ·exact absurd (e4.trans e3.symm) c2
   ·rcases hpp with e3 | e3
    ·rcases c3 with e4 | e4
     ·exact absurd (e4.trans e3.symm) c2
     ·rw [← e4];exact c1
    ·rw [← e3];exact hf
  ·exact w.shut r hr e1 e2
theorem ringSegs_at {R:List Int} {i:Nat} (h:i < R.length):(ringSegs R)[i]'(by rw [ringSegs_len];exact h)=⟨R.getD i 0,R.getD ((i + 1) % R.length) 0⟩:=by simp [ringSegs]
theorem segs_x (R:List Int):(ringSegs R).map (·.x)=R:=by
 apply List.ext_getElem
 ·simp [ringSegs_len]
 ·intro i h1 h2
  simp [ringSegs,h2]
theorem segs_y (R:List Int):(ringSegs R).map (·.y)=R.drop 1 ++ R.take 1:=by
 apply List.ext_getElem
 ·simp [ringSegs_len];omega
 ·intro i h1 h2
  have hi:i < R.length:=by simpa [ringSegs_len] using h1
  simp only [List.getElem_map]
  rw [ringSegs_at hi]
  dsimp only
  rcases Nat.lt_or_ge (i + 1) R.length with hl | hl
  ·rw [Nat.mod_eq_of_lt hl,List.getElem_append_left (by rw [List.length_drop];omega),List.getElem_drop]
   simp only [List.getD_eq_getElem?_getD,List.getElem?_eq_getElem hl,Option.getD_some]
   congr 1
   omega
  ·have e:i + 1=R.length:=by omega
   rw [e,Nat.mod_self,List.getElem_append_right (by rw [List.length_drop];omega),List.getElem_take]
   simp only [List.getD_eq_getElem?_getD,List.getElem?_eq_getElem (show 0 < R.length by omega),Option.getD_some]
   congr 1
   rw [List.length_drop]
   omega
theorem deg_xy:∀ (l:List Pt) (p:Int),deg l p=(l.map (·.x)).count p + (l.map (·.y)).count p
 | [],p=>rfl
 | s :: l,p=>by
  have:=deg_xy l p
  unfold deg at *
  rw [nbs_cons,List.length_append,this,List.map_cons,List.map_cons,List.count_cons,List.count_cons]
  unfold nb1
  by_cases h1:s.x=p <;> by_cases h2:s.y=p <;> simp [h1,h2] <;> omega
theorem deg_ring (R:List Int) (p:Int):deg (ringSegs R) p=2 * R.count p:=by
 rw [deg_xy,segs_x,segs_y]
 have:=(List.perm_append_comm (l₁:=R.drop 1) (l₂:=R.take 1)).count_eq p
 rw [this,List.take_append_drop]
 omega
/-- different places below n, at least three -/
structure Row (n:Nat) (R:List Int):Prop where
 nod:R.Nodup
 inn:∀ r ∈ R,0 ≤ r∧r < (n:Int)
 big:3 ≤ R.length
theorem Row.inj {n:Nat} {R:List Int} (h:Row n R) {i j:Nat} (hi:i < R.length) (hj:j < R.length) (e:R.getD i 0=R.getD j 0):i=j:=by
 simp only [List.getD_eq_getElem?_getD,List.getElem?_eq_getElem hi,List.getElem?_eq_getElem hj,Option.getD_some] at e
 have hp:=List.pairwise_iff_getElem.1 h.nod
 rcases Nat.lt_trichotomy i j with k | k | k
 ·exact absurd e (hp i j hi hj k)
 ·exact k
 ·exact absurd e.symm (hp j i hj hi k)
theorem getD_mem {R:List Int} {i:Nat} (h:i < R.length):R.getD i 0 ∈ R:=by
 simp only [List.getD_eq_getElem?_getD,List.getElem?_eq_getElem h,Option.getD_some]
 exact List.getElem_mem _
theorem Row.okl {n:Nat} {R:List Int} (h:Row n R) (hn:n ≤ 1048576):okL (n:Int) (ringSegs R):=by
 refine ⟨by omega,by omega,fun s hs=>?_⟩
 obtain ⟨i,hi,rfl⟩:=List.mem_iff_getElem.1 hs
 rw [ringSegs_len] at hi
 rw [ringSegs_at hi]
 have hb:=h.big
 have hk:(i + 1) % R.length < R.length:=Nat.mod_lt _ (by omega)
 have h1:=h.inn _ (getD_mem hi)
 have h2:=h.inn _ (getD_mem hk)
 refine ⟨h1.1,h2.1,h1.2,h2.2,fun e=>?_⟩
 have:=h.inj hi hk e
 rcases Nat.lt_or_ge (i + 1) R.length with hl | hl
 ·rw [Nat.mod_eq_of_lt hl] at this
  omega
 ·have e:i + 1=R.length:=by omega
  rw [e,Nat.mod_self] at this
  omega
theorem Row.nodS {n:Nat} {R:List Int} (h:Row n R):((ringSegs R).map norm).Nodup:=by
 rw [List.Nodup,List.pairwise_iff_getElem]
 intro i j hi hj hij e
 simp only [List.length_map,ringSegs_len] at hi hj
 simp only [List.getElem_map] at e
 rw [ringSegs_at hi,ringSegs_at hj,norm_eq] at e
 dsimp only at e
 have hb:=h.big
 have hi2:(i + 1) % R.length < R.length:=Nat.mod_lt _ (by omega)
 have hj2:(j + 1) % R.length < R.length:=Nat.mod_lt _ (by omega)
 rcases e with ⟨e1,-⟩ | ⟨e1,e2⟩
 ·have:=h.inj hi hj e1
  omega
 ·have a1:=h.inj hi hj2 e1
  have a2:=h.inj hi2 hj e2
  rw [Nat.mod_eq_of_lt (by omega)] at a2
  rcases Nat.lt_or_ge (j + 1) R.length with hl | hl
  ·rw [Nat.mod_eq_of_lt hl] at a1
   omega
  ·have e:j + 1=R.length:=by omega
   rw [e,Nat.mod_self] at a1
   omega
theorem Row.good {n:Nat} {R:List Int} (h:Row n R) (hn:n ≤ 1048576):Good n (ringSegs R):=by
 refine ⟨h.okl hn,h.nodS,fun p _ _=>?_⟩
 have hd:=deg_ring R p
 unfold deg at hd
 have hc:R.count p ≤ 1:=List.nodup_iff_count.1 h.nod p
 rcases Nat.lt_or_ge (R.count p) 1 with hl | hl
 ·exact .inl (List.length_eq_zero_iff.1 (by omega))
 ·exact .inr (len2 (by omega))
theorem Row.act {n:Nat} {R:List Int} (h:Row n R) (hn:n ≤ 1048576) {p:Int} (h0:0 ≤ p) (h1:p < (n:Int)):(pr (ringSegs R) p).x ≠ (pr (ringSegs R) p).y ↔ p ∈ R:=by
 have hd:=deg_ring R p
 unfold deg at hd
 rcases (h.good hn).cases h0 h1 with ⟨e,k⟩ | ⟨e,k⟩
 ·rw [e] at hd
  have:R.count p=0:=by simp only [List.length_nil] at hd;omega
  exact ⟨fun h=>absurd k h,fun h=>by have:=List.count_pos_iff.2 h;omega⟩
 ·rw [e] at hd
  have:0 < R.count p:=by simp at hd;omega
  exact ⟨fun _=>List.count_pos_iff.1 this,fun _=>k⟩
/-- all of a row lies in the loop through one of its places -/
theorem Row.all {n:Nat} {R:List Int} (h:Row n R) (hn:n ≤ 1048576) {f:Int} (hf:f ∈ R):∀ r ∈ R,r ∈ ringF (pr (ringSegs R)) n f:=by
 have hfi:=h.inn f hf
 have N:=(h.good hn).net
 have hact:=(h.act hn hfi.1 hfi.2).2 hf
 have hcl:=ring_closed N hfi.1 hfi.2 hact
 have hb:=h.big
 -- from one place to the next one
 have step:∀ i,i < R.length → R.getD i 0 ∈ ringF (pr (ringSegs R)) n f → R.getD ((i + 1) % R.length) 0 ∈ ringF (pr (ringSegs R)) n f:=by
  intro i hi hr
  have hk:(i + 1) % R.length < R.length:=Nat.mod_lt _ (by omega)
  have h1:=h.inn _ (getD_mem hi)
  have h2:=(h.act hn h1.1 h1.2).2 (getD_mem hi)
  have hm:R.getD ((i + 1) % R.length) 0 ∈ nbs (ringSegs R) (R.getD i 0):=by
   refine mem_nbs.2 ⟨(ringSegs R)[i]'(by rw [ringSegs_len];exact hi),List.getElem_mem _,?_⟩
   rw [ringSegs_at hi]
   exact .inl ⟨rfl,rfl⟩
  rcases ((h.good hn).mem h1.1 h1.2 h2).1 hm with e | e
  ·rw [e];exact (hcl _ hr).1
  ·rw [e];exact (hcl _ hr).2
 have h0:f ∈ ringF (pr (ringSegs R)) n f:=by unfold ringF;simp
 obtain ⟨a,ha,e⟩:=List.mem_iff_getElem.1 hf
 have e2:R.getD a 0=f:=by simp only [List.getD_eq_getElem?_getD,List.getElem?_eq_getElem ha,Option.getD_some];exact e
 have key:∀ t,R.getD ((a + t) % R.length) 0 ∈ ringF (pr (ringSegs R)) n f:=by
  intro t
  induction t with
  | zero=>rw [Nat.add_zero,Nat.mod_eq_of_lt ha,e2];exact h0
  | succ t ih=>
   have:=step _ (Nat.mod_lt _ (by omega)) ih
   rw [Nat.mod_add_mod] at this
   exact this
 intro r hr
 obtain ⟨i,hi,rfl⟩:=List.mem_iff_getElem.1 hr
 have:=key (i + R.length - a)
 rw [show a + (i + R.length - a)=i + R.length by omega,Nat.add_mod_right,Nat.mod_eq_of_lt hi] at this
 simp only [List.getD_eq_getElem?_getD,List.getElem?_eq_getElem hi,Option.getD_some] at this
 exact this
end Go.Proofs.YtpjaefcmaiimlaaGreat
