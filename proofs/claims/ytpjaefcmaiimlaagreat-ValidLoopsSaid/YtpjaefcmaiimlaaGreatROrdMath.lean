/-
  The plain mathematics of RingsOrder: the same segments, in another order, from the other end.
-/
import Derived.Test.YtpjaefcmaiimlaaGreatRMaths
import Derived.Test.YtpjaefcmaiimlaaGreatRLoopsAll
set_option linter.unusedVariables false
set_option linter.unusedSimpArgs false
set_option linter.deprecated false
namespace Go.Proofs.YtpjaefcmaiimlaaGreat

/-- the same segments -/
def SameSegs (l m:List Pt):Prop:=(l.map norm).Perm (m.map norm)
theorem okS_norm {n:Int} {s:Pt}:okS n (norm s) ↔ okS n s:=by unfold okS norm;dsimp only;omega
theorem SameSegs.symm {l m:List Pt} (h:SameSegs l m):SameSegs m l:=List.Perm.symm h
theorem SameSegs.okl {l m:List Pt} {n:Int} (h:SameSegs l m) (hl:okL n l):okL n m:=by
 refine ⟨hl.1,hl.2.1,fun s hs=>?_⟩
 have h1:norm s ∈ l.map norm:=(List.Perm.mem_iff h).2 (List.mem_map.2 ⟨s,hs,rfl⟩)
 obtain ⟨t,ht,e⟩:=List.mem_map.1 h1
 rw [← okS_norm,← e,okS_norm]
 exact hl.2.2 t ht
theorem SameSegs.mem {l m:List Pt} (h:SameSegs l m) {p q:Int} (hq:q ∈ nbs l p):q ∈ nbs m p:=by
 obtain ⟨s,hs,k⟩:=mem_nbs.1 hq
 have h1:norm s ∈ m.map norm:=(List.Perm.mem_iff h).1 (List.mem_map.2 ⟨s,hs,rfl⟩)
 obtain ⟨t,ht,e⟩:=List.mem_map.1 h1
 refine mem_nbs.2 ⟨t,ht,?_⟩
 rcases norm_eq.1 e with ⟨a,b⟩ | ⟨a,b⟩
 ·rw [a,b];exact k
 ·rw [a,b];exact k.symm
def nbN (s:Pt) (p:Int):Nat:=(nb1 s p).length
theorem nbN_norm (s:Pt) (p:Int):nbN (norm s) p=nbN s p:=by
 unfold nbN nb1 norm
 dsimp only
 rcases Int.le_total s.x s.y with h | h
 ·rw [Int.min_eq_left h,Int.max_eq_right h]
 ·rw [Int.min_eq_right h,Int.max_eq_left h]
  by_cases h1:s.x=p <;> by_cases h2:s.y=p <;> simp [h1,h2]
theorem deg_sum:∀ (l:List Pt) (p:Int),deg l p=((l.map norm).map fun s=>nbN s p).sum
 | [],p=>rfl
 | s :: l,p=>by
  have:=deg_sum l p
  unfold deg at *
  rw [nbs_cons,List.length_append,this,List.map_cons,List.map_cons,List.sum_cons,nbN_norm]
  rfl
theorem SameSegs.dg {l m:List Pt} (h:SameSegs l m) (p:Int):deg l p=deg m p:=by
 rw [deg_sum,deg_sum]
 exact (List.Perm.map _ h).sum_nat
/-- neighbours alike, or the other way round -/
def Swap (K M:Int → Pt) (n:Int):Prop:=∀ p,0 ≤ p → p < n → M p=K p ∨ M p=⟨(K p).y,(K p).x⟩
theorem Swap.next {K M:Int → Pt} {n:Int} (h:Swap K M n) {b p:Int} (h0:0 ≤ p) (h1:p < n) (hb:b=(K p).x ∨ b=(K p).y):nextF M b p=nextF K b p:=by
 unfold nextF
 rcases h p h0 h1 with e | e <;> rw [e]
 dsimp only
 rcases hb with e | e
 ·rw [if_pos e.symm]
  split
  ·next e2=>rw [e2,← e]
  ·rfl
 ·rw [if_pos e.symm]
  split
  ·next e2=>rw [← e,e2]
  ·rfl
theorem Swap.loop {K M:Int → Pt} {n:Nat} {f:Int} (h:Swap K M (n:Int)) (N:Net K (n:Int)):∀ (k:Nat) (R:List Int) (b p c:Int),Way K (n:Int) f R b p c → loopF M f k b p=loopF K f k b p
 | 0,_,_,_,_,_=>rfl
 | k + 1,R,b,p,c,hw=>by
  by_cases hp:p=f
  ·subst hp
   rw [loopF_end,loopF_end]
  ·have hi:=hw.inn b hw.hb
   have hq:=N b hi.1 hi.2.1 hi.2.2 p hw.hp
   rw [loopF_step hp,loopF_step hp,h.next hq.1 hq.2.1 hq.2.2.2.2,Swap.loop h N k _ _ _ _ (hw.step N hp)]
theorem Swap.ring {K M:Int → Pt} {n:Nat} {f:Int} (h:Swap K M (n:Int)) (N:Net K (n:Int)) (h0:0 ≤ f) (h1:f < (n:Int)) (h2:(K f).x ≠ (K f).y):ringF M n f=ringF K n f:=by
 have hm:min (M f).x (M f).y=min (K f).x (K f).y:=by
  rcases h f h0 h1 with e | e <;> rw [e]
  exact Int.min_comm _ _
 have hp:min (K f).x (K f).y=(K f).x ∨ min (K f).x (K f).y=(K f).y:=by omega
 unfold ringF
 rw [hm,h.loop N n [f] f _ f (Way.start h0 h1 h2 hp)]
end Go.Proofs.YtpjaefcmaiimlaaGreat
