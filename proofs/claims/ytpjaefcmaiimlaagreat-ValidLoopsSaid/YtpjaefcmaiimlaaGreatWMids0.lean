/-
  Contract of within's side.
-/
import Derived.Test.YtpjaefcmaiimlaaGreatWMem
import Derived.Test.YtpjaefcmaiimlaaGreatWProper
set_option linter.unusedVariables false
set_option linter.unusedSimpArgs false
set_option linter.deprecated false
namespace Go.Proofs.YtpjaefcmaiimlaaGreat
open Go.RowKit

def sideZ (a b q:Pt):Int:=if onB a b q=true then 1 else if rightB a b q=true then 2 else 0
def loP (a b:Pt):Pt:=if b.y < a.y then b else a
def hiP (a b:Pt):Pt:=if b.y < a.y then a else b
theorem orient_pos {a b c:Pt} (fa:fitB a=true) (fb:fitB b=true) (fc:fitB c=true):0 < orientZ a b c ↔ 0 < crossZ a b c:=by
 unfold orientZ
 rw [fa,fb,fc]
 rcases sg3_vals (crossZ a b c) with ⟨h,e⟩ | ⟨h,e⟩ | ⟨h,e⟩ <;> simp [e] <;> omega
theorem side_is {a b q:Pt} (fa:fitB a=true) (fb:fitB b=true) (fq:fitB q=true) :
  sideZ a b q=if (hiP a b).y < q.y ∨ q.y < (loP a b).y then 0 else if onB a b q=true then 1 else if q.y < (hiP a b).y∧0 < orientZ (loP a b) (hiP a b) q then 2 else 0:=by
 unfold sideZ
 by_cases hb:b.y < a.y
 ·have e1:hiP a b=a:=if_pos hb
  have e2:loP a b=b:=if_pos hb
  rw [e1,e2]
  by_cases ho:a.y < q.y ∨ q.y < b.y
  ·rw [if_pos ho]
   have h1:¬ onB a b q=true:=fun h=>by have:=(on_box h).2;omega
   have h2:¬ rightB a b q=true:=fun h=>by have:=(right_iff a b q).1 h;omega
   rw [if_neg h1,if_neg h2]
  ·rw [if_neg ho]
   split
   ·rfl
   ·have:rightB a b q=true ↔ (q.y < a.y∧0 < orientZ b a q):=by
     rw [right_iff,orient_pos fb fa fq,cross_swap];omega
    by_cases hr:rightB a b q=true
    ·rw [if_pos hr,if_pos (this.1 hr)]
    ·rw [if_neg hr,if_neg fun h=>hr (this.2 h)]
 ·have e1:hiP a b=b:=if_neg hb
  have e2:loP a b=a:=if_neg hb
  rw [e1,e2]
  by_cases ho:b.y < q.y ∨ q.y < a.y
  ·rw [if_pos ho]
   have h1:¬ onB a b q=true:=fun h=>by have:=(on_box h).2;omega
   have h2:¬ rightB a b q=true:=fun h=>by have:=(right_iff a b q).1 h;omega
   rw [if_neg h1,if_neg h2]
  ·rw [if_neg ho]
   split
   ·rfl
   ·have:rightB a b q=true ↔ (q.y < b.y∧0 < orientZ a b q):=by
     rw [right_iff,orient_pos fa fb fq];omega
    by_cases hr:rightB a b q=true
    ·rw [if_pos hr,if_pos (this.1 hr)]
    ·rw [if_neg hr,if_neg fun h=>hr (this.2 h)]

set_option maxHeartbeats 8000000 in
set_option maxRecDepth 100000 in
theorem side_l (a b q:Pt) (fa:fitB a=true) (fb:fitB b=true) (fq:fitB q=true) (w:World) :
  Calls Tryz.prog 110 #[.agg #[.int .i64 a.x,.int .i64 a.y],.agg #[.int .i64 b.x,.int .i64 b.y],.agg #[.int .i64 q.x,.int .i64 q.y]] w (Gives (.int .i64 (sideZ a b q)) w):=by
 have HS:=Lib.hid (side_is fa fb fq)
 have C1:=Lib.hid (fun W=>on_l a b q W)
 have C2:=Lib.hid (fun W=>orient_l (loP a b) (hiP a b) q W)
 generalize onB a b q=o at *
 generalize orientZ (loP a b) (hiP a b) q=z at *
 generalize sideZ a b q=r at *
 obtain ⟨lo,hlo⟩:∃ p,loP a b=p:=⟨_,rfl⟩
 obtain ⟨hi',hhi⟩:∃ p,hiP a b=p:=⟨_,rfl⟩
 rw [hlo,hhi] at HS C2
 clear fa fb fq
 go_enter Tryz.func110,Tryz.ntmps110
 go_upto_region 1 with (fail)
 refine wp_abs (fun W=>Var W w.heap.size [.int .i64 a.x,.int .i64 a.y]∧Var W (w.heap.size + 1) [.int .i64 b.x,.int .i64 b.y]∧Var W (w.heap.size + 1 + 1) [.int .i64 q.x,.int .i64 q.y]∧Grew w 3 W) ?_ ?_
 ·exact ⟨(var2_new _ _ _ _ _ rfl).below (bl_alloc (bl_one _ _) _),(var2_new _ _ _ _ _ (by simp)).below (bl_one _ _),var2_new _ _ _ _ _ (by simp),by repeat (first | (with_reducible exact Below.refl _ _) | (with_reducible refine bl_alloc ?_ _) | (with_reducible refine Below.drew ?_) | (with_reducible refine below_drewN' ?_ _) | ((with_reducible refine bl_set ?_ ?_ _);(rotate_left;(dsimp only;omega)))),by simp⟩
 rintro W0 hS0
 have HS0:=Lib.hid hS0
 obtain ⟨c0,c1⟩:=hS0.1.two
 obtain ⟨c2,c3⟩:=hS0.2.1.two
 have l1:=hS0.1.lt
 have l2:=hS0.2.1.lt
 have l3:=hS0.2.2.1.lt
 have hsz:=hS0.2.2.2.sz
 clear hS0
 go_cut [7,8] (fun x y W=>∃ g7 g8,x=.pointer (some ⟨g7,0,none⟩)∧y=.pointer (some ⟨g8,0,none⟩)∧g7 ≠ g8∧w.heap.size + 3 ≤ g7∧w.heap.size + 3 ≤ g8∧Var W g7 [.int .i64 a.x,.int .i64 a.y]∧Var W g8 [.int .i64 b.x,.int .i64 b.y]∧Below W0.heap.size W0 W)
 case first=>
  go_region
  all_goals
   go_wp2_with fail
   go_meet
   case rel=>first
    | exact ⟨_,_,rfl,rfl,by first | omega | (simp;done) | (simp;omega),by first | omega | (simp;omega),by first | omega | (simp;omega),((var2_new _ _ _ _ _ rfl).below (bl_one _ _)).below (bel_drew _),(var2_new _ _ _ _ _ (by simp)).below (bel_drew _),by repeat (first | (with_reducible exact Below.refl _ _) | (with_reducible refine bl_alloc ?_ _) | (with_reducible refine Below.drew ?_) | (with_reducible refine below_drewN' ?_ _) | ((with_reducible refine bl_set ?_ ?_ _);(rotate_left;(dsimp only;omega))))⟩
    | exact ⟨_,_,rfl,rfl,by first | omega | (simp;done) | (simp;omega),by first | omega | (simp;omega),by first | omega | (simp;omega),(var2_new _ _ _ _ _ (by simp)).below (bel_drew _),((var2_new _ _ _ _ _ rfl).below (bl_one _ _)).below (bel_drew _),by repeat (first | (with_reducible exact Below.refl _ _) | (with_reducible refine bl_alloc ?_ _) | (with_reducible refine Below.drew ?_) | (with_reducible refine below_drewN' ?_ _) | ((with_reducible refine bl_set ?_ ?_ _);(rotate_left;(dsimp only;omega))))⟩
 case rest=>
 obtain ⟨g7,g8,rfl,rfl,hne,hg7,hg8,v7,v8,hb⟩:=hcut
 replace HS0:=Lib.hid (show _∧_∧_∧_ from ⟨HS0.out.1.below hb,HS0.out.2.1.below hb,HS0.out.2.2.1.below hb,HS0.out.2.2.2.below hb⟩)
 have HV7:=Lib.hid v7
 have HV8:=Lib.hid v8
 clear c0 c1 c2 c3 l1 l2 l3 hsz v7 v8 hb
 obtain ⟨c0,c1⟩:=HS0.out.1.two
 obtain ⟨c2,c3⟩:=HS0.out.2.1.two
 have hlh:(b.y < a.y∧lo=b∧hi'=a) ∨ (¬ b.y < a.y∧lo=a∧hi'=b):=by
  rw [← hlo,← hhi]
  unfold loP hiP
  by_cases h:b.y < a.y
  ·exact .inl ⟨h,if_pos h,if_pos h⟩
  ·exact .inr ⟨h,if_neg h,if_neg h⟩
 clear hlo hhi
 obtain ⟨d0,d1⟩:=HV7.out.two
 obtain ⟨d2,d3⟩:=HV8.out.two
 go_upto_if 15 with (fail)
 go_cut [] (fun W=>Var W g7 [.int .i64 lo.x,.int .i64 lo.y]∧Var W g8 [.int .i64 hi'.x,.int .i64 hi'.y]∧(Var W w.heap.size [.int .i64 a.x,.int .i64 a.y]∧Var W (w.heap.size + 1) [.int .i64 b.x,.int .i64 b.y]∧Var W (w.heap.size + 1 + 1) [.int .i64 q.x,.int .i64 q.y]∧Grew w 3 W))
 case first=>
  rcases hlh with ⟨h,rfl,rfl⟩ | ⟨h,rfl,rfl⟩
  ·have z6:=decide_eq_true h
   rw [z6]
   clear h z6
   obtain ⟨f0,f1⟩:=HV7.out.free2
   obtain ⟨f2,f3⟩:=HV8.out.free2
   have hs:=HS0.out.2.2.2.sz
   go_wp2_with fail
   go_region
   all_goals
    go_wp2_with fail
    go_meet
    case rel=>
     have k1:=HS0.out.1.below (bel_drew _)
     have k2:=HS0.out.2.1.below (bel_drew _)
     have k3:=HS0.out.2.2.1.below (bel_drew _)
     have k4:=HS0.out.2.2.2.below (bel_drew _)
     have k7:=HV7.out.below (bel_drew _)
     have k8:=HV8.out.below (bel_drew _)
     have e1:∀ {W:World} {g:Nat} {vs:List Value} (_:Var W g vs) (_:g ≠ g7) (_:g ≠ g8) (x y z t:Value),Var ((((W.setCell ⟨g7,0,none⟩ x).setCell ⟨g7,1,none⟩ y).setCell ⟨g8,0,none⟩ z).setCell ⟨g8,1,none⟩ t) g vs:=fun h n1 n2 x y z t=>(((h.far (p:=⟨g7,0,none⟩) (Ne.symm n1) x).far (p:=⟨g7,1,none⟩) (Ne.symm n1) y).far (p:=⟨g8,0,none⟩) (Ne.symm n2) z).far (p:=⟨g8,1,none⟩) (Ne.symm n2) t
     exact ⟨((k7.set2 _ _).far (p:=⟨g8,0,none⟩) (Ne.symm hne) _).far (p:=⟨g8,1,none⟩) (Ne.symm hne) _,((k8.far (p:=⟨g7,0,none⟩) hne _).far (p:=⟨g7,1,none⟩) hne _).set2 _ _,
      e1 k1 (by omega) (by omega) _ _ _ _,e1 k2 (by omega) (by omega) _ _ _ _,e1 k3 (by omega) (by omega) _ _ _ _,
      (((k4.set (p:=⟨g7,0,none⟩) (by dsimp only;omega) _).set (p:=⟨g7,1,none⟩) (by dsimp only;omega) _).set (p:=⟨g8,0,none⟩) (by dsimp only;omega) _).set (p:=⟨g8,1,none⟩) (by dsimp only;omega) _⟩
  ·have z6:=decide_eq_false h
   rw [z6]
   clear h z6
   go_wp2_with fail
   go_meet
   case rel=>exact ⟨HV7.out,HV8.out,HS0.out⟩
 case rest=>
 obtain ⟨v7,v8,hS0⟩:=hcut
 clear HS0 HV7 HV8 c0 c1 c2 c3 d0 d1 d2 d3 hlh
 have HV7:=Lib.hid v7
 have HV8:=Lib.hid v8
 have HS0:=Lib.hid hS0
 clear v7 v8 hS0
 obtain ⟨c0,c1⟩:=HS0.out.1.two
 obtain ⟨c2,c3⟩:=HS0.out.2.1.two
 obtain ⟨c4,c5⟩:=HS0.out.2.2.1.two
 obtain ⟨d0,d1⟩:=HV7.out.two
 obtain ⟨d2,d3⟩:=HV8.out.two
 by_cases h1:hi'.y < q.y
 ·have b1:(hi'.y < q.y)=True:=eq_true h1
  have HR:Hid (r=0):=HS.out.trans (if_pos (.inl h1))
  clear h1
  go_wp2_with fail
  go_ret
  exact ⟨by rw [HR.out];rfl,HS0.out.2.2.2.hb⟩
 have b1:(hi'.y < q.y)=False:=eq_false h1
 by_cases h2:q.y < lo.y
 ·have b2:(q.y < lo.y)=True:=eq_true h2
  have HR:Hid (r=0):=HS.out.trans (if_pos (.inr h2))
  clear h1 h2
  go_wp2_with fail
  go_ret
  exact ⟨by rw [HR.out];rfl,HS0.out.2.2.2.hb⟩
 have b2:(q.y < lo.y)=False:=eq_false h2
 replace HS:Hid (r=if o=true then 1 else if q.y < hi'.y∧0 < z then 2 else 0):=HS.out.trans (if_neg fun h=>h.elim h1 h2)
 clear h1 h2
 go_wp2_with fail
 (with_reducible refine (C1.out _).mono ?_);rintro e w1 ⟨rfl,hb1⟩
 replace HV7:=Lib.hid (HV7.out.below hb1)
 replace HV8:=Lib.hid (HV8.out.below hb1)
 replace HS0:=Lib.hid (show _∧_∧_∧_ from ⟨HS0.out.1.below hb1,HS0.out.2.1.below hb1,HS0.out.2.2.1.below hb1,HS0.out.2.2.2.below hb1⟩)
 clear c0 c1 c2 c3 c4 c5 d0 d1 d2 d3 hb1
 obtain ⟨c4,c5⟩:=HS0.out.2.2.1.two
 obtain ⟨d0,d1⟩:=HV7.out.two
 obtain ⟨d2,d3⟩:=HV8.out.two
 cases o
 case true=>
  have HR:Hid (r=1):=HS.out
  go_wp2_with fail
  go_ret
  exact ⟨by rw [HR.out];rfl,HS0.out.2.2.2.hb⟩
 case false=>
 replace HS:Hid (r=if q.y < hi'.y∧0 < z then 2 else 0):=HS.out
 by_cases h3:q.y < hi'.y
 ·have b3:(q.y < hi'.y)=True:=eq_true h3
  go_wp2_with fail
  (with_reducible refine (C2.out _).mono ?_);rintro e w2 ⟨rfl,hb2⟩
  have HB:=Lib.hid (bl_trans HS0.out.2.2.2.hb hb2)
  clear hb2 c4 c5 d0 d1 d2 d3
  by_cases h4:0 < z
  ·have b4:(0 < z)=True:=eq_true h4
   have HR:Hid (r=2):=HS.out.trans (if_pos ⟨h3,h4⟩)
   clear h3 h4
   go_wp2_with fail
   go_ret
   exact ⟨by rw [HR.out];rfl,HB.out⟩
  ·have b4:(0 < z)=False:=eq_false h4
   have HR:Hid (r=0):=HS.out.trans (if_neg fun h=>h4 h.2)
   clear h3 h4
   go_wp2_with fail
   go_ret
   exact ⟨by rw [HR.out];rfl,HB.out⟩
 ·have b3:(q.y < hi'.y)=False:=eq_false h3
  have HR:Hid (r=0):=HS.out.trans (if_neg fun h=>h3 h.1)
  clear h3
  go_wp2_with fail
  go_ret
  exact ⟨by rw [HR.out];rfl,HS0.out.2.2.2.hb⟩
end Go.Proofs.YtpjaefcmaiimlaaGreat

/-
  Contracts of within's fit, locate.
-/
namespace Go.Proofs.YtpjaefcmaiimlaaGreat
open Go.RowKit

set_option maxHeartbeats 8000000 in
set_option maxRecDepth 100000 in
theorem fit9_l (p l:List Pt) (ap al:Option Addr) (cp cl:Nat) (kk:Int) (hk0:0 ≤ kk) (hk3:kk ≤ 3) (w:World) (hP:PtRow w ap p) (hL:PtRow w al l) (hll:l.length ≤ 10000) (hpr:properL p l=true) :
  Calls Tryz.prog 112 #[.slice al l.length cl,(.func (.func 84) #[.agg #[.slice ap p.length cp,.int .i64 kk]] #[])] w (Gives (.bool (fitK kk p l)) w):=by
 have HP:=Lib.hid hP
 have HL:=Lib.hid hL
 have HPr:=Lib.hid hpr
 clear hP hL hpr
 go_enter Tryz.func112,Tryz.ntmps112
 go_wp2_with fail
 go_loopw [9] (fun iv W=>∃ k:Nat,k ≤ l.length∧iv=.int .i64 k∧(∀ i,i < k → fitB (endsOf kk p l i).1=true∧fitB (endsOf kk p l i).2=true)∧Below w.heap.size w W) (fun iv _=>l.length - (intOf iv).toNat)
 case atStart=>exact ⟨0,Nat.zero_le _,rfl,fun i hi=>absurd hi (Nat.not_lt_zero _),Below.refl _ _⟩
 case round=>
  obtain ⟨k,hk,rfl,hS,hB⟩:=hrel
  have HB:=Lib.hid hB
  have HS:=Lib.hid hS
  clear hB hS
  by_cases hlt:k < l.length
  ·have b2:((k:Int) < (l.length:Int))=True:=eq_true (by omega)
   have d2:(k < l.length)=True:=eq_true hlt
   have c2:((0:Int) ≤ (k:Int))=True:=eq_true (by omega)
   obtain ⟨g,o,rfl⟩:=HL.out.some (by omega)
   obtain ⟨s,hs⟩:∃ s,pget l k=s:=⟨_,rfl⟩
   obtain ⟨k0,k1⟩:=ptRow_at (HL.out.below HB.out) hlt hs
   obtain ⟨x,hx⟩:∃ x,s.x=x:=⟨_,rfl⟩
   obtain ⟨y,hy⟩:∃ y,s.y=y:=⟨_,rfl⟩
   rw [hx] at k0
   rw [hy] at k1
   obtain ⟨hkx,hky,-⟩:=ok9_iff.1 (proper_iff.1 HPr.out k hlt)
   rw [hs,hx] at hkx
   rw [hs,hy] at hky
   obtain ⟨A,hA⟩:∃ A,scaleP kk (ptI p x)=A:=⟨_,rfl⟩
   obtain ⟨B,hBB⟩:∃ B,scaleP kk (ptI p y)=B:=⟨_,rfl⟩
   have HEN:Hid (endsOf kk p l k=(A,B)):=by
    unfold Hid endsOf
    rw [hs,hx,hy,hA,hBB]
   go_upto_region 4 with (fail)
   have HV:=Lib.hid (var2_new wr (.int .i64 x) (.int .i64 y) 59 wr.heap.size rfl)
   have HB2:=Lib.hid (bl_trans HB.out (bl_one wr (.cells #[.int .i64 x,.int .i64 y] 59)))
   generalize wr.alloc (.cells #[.int .i64 x,.int .i64 y] 59)=W2 at *
   generalize wr.heap.size=g8 at *
   clear k0 k1
   have HK1:Hid (∀ W,Below W2.heap.size W2 W → Calls Tryz.prog 84 #[.agg #[.slice ap p.length cp,.int .i64 kk],.int .i64 x] W (Gives (.agg #[.int .i64 A.x,.int .i64 A.y]) W)):=fun W h=>by
    have:=point_l p ap cp kk x W (HP.out.below (bl_trans HB2.out h)) hkx hk0 hk3
    rwa [hA] at this
   have HK2:Hid (∀ W,Below W2.heap.size W2 W → Calls Tryz.prog 84 #[.agg #[.slice ap p.length cp,.int .i64 kk],.int .i64 y] W (Gives (.agg #[.int .i64 B.x,.int .i64 B.y]) W)):=fun W h=>by
    have:=point_l p ap cp kk y W (HP.out.below (bl_trans HB2.out h)) hky hk0 hk3
    rwa [hBB] at this
   clear hs hx hy hkx hky hA hBB
   obtain ⟨r,hr⟩:∃ r,(fitB A && fitB B)=r:=⟨_,rfl⟩
   have HR:=Lib.hid hr
   clear hr
   refine wp_region_held_drew (S:=fun V=>Below W2.heap.size W2 V) (by kernel_rfl) ?_ (fun hHeld=>?_)
   ·exact bel_drew W2
   revert hHeld
   generalize World.drew _=W1
   intro hHeld 
   refine tk (i:=0) (v:=?_) rfl (Or.inl ⟨by rfl,?_⟩) ?_
   rotate_left;· rintro _ -;go_simp;all_goals (with_reducible rfl)
   try simp only [Act.put,x2,x4,x5,x6,x7]
   refine tk (i:=1) (v:=?_) rfl (Or.inl ⟨by rfl,?_⟩) ?_
   rotate_left;· rintro _ -;go_simp;all_goals (with_reducible rfl)
   try simp only [Act.put,x2,x3,x4,x5,x6,x7]
   refine tk (i:=2) (v:=?_) rfl (Or.inl ⟨by rfl,?_⟩) ?_
   rotate_left
   ·intro Wq hSw
    obtain ⟨v0,v1⟩:=(HV.out.below hSw).two
    clear hSw
    go_simp;all_goals (with_reducible rfl)
   try simp only [Act.put,x2,x3,x4,x5,x6,x7]
   refine tk (i:=4) (v:=?_) rfl (Or.inl ⟨by rfl,?_⟩) ?_
   rotate_left;· rintro _ -;go_simp;all_goals (with_reducible rfl)
   try simp only [Act.put,x2,x3,x4,x5,x6,x7]
   refine tk (i:=5) (v:=?_) rfl (Or.inl ⟨by rfl,?_⟩) ?_
   rotate_left;· rintro _ -;go_simp;all_goals (with_reducible rfl)
   try simp only [Act.put,x2,x3,x4,x5,x6,x7]
   refine tk (i:=6) (v:=?_) rfl (Or.inl ⟨by rfl,?_⟩) ?_
   rotate_left
   ·intro Wq hSw
    obtain ⟨v0,v1⟩:=(HV.out.below hSw).two
    clear hSw
    go_simp;all_goals (with_reducible rfl)
   try simp only [Act.put,x2,x3,x4,x5,x6,x7]
   refine r1 (i:=3) rfl (fun K hK=>?_)
   go_simp
   (with_reducible refine (HK1.out _ hHeld).mono ?_)
   rintro e w1 ⟨rfl,hb1⟩
   go_wp2_with fail
   refine hK.out _ _ (bl_trans hHeld hb1) (fun hHeld2=>?_)
   clear hK K hHeld
   have hHeld:=hHeld2
   clear hHeld2
   try simp only [Act.put,x2,x3,x4,x5,x6,x7]
   refine r1 (i:=7) rfl (fun K hK=>?_)
   go_simp
   (with_reducible refine (HK2.out _ hHeld).mono ?_)
   rintro e w1 ⟨rfl,hb1⟩
   go_wp2_with fail
   refine hK.out _ _ (bl_trans hHeld hb1) (fun hHeld2=>?_)
   clear hK K hHeld
   have hHeld:=hHeld2
   clear hHeld2
   try simp only [Act.put,x2,x3,x4,x5,x6,x7]
   refine r1 (i:=8) rfl (fun K hK=>?_)
   go_simp
   refine hK.out _ _ (bl_alloc hHeld _) (fun hHeld2=>?_)
   clear hK K hHeld
   have hHeld:=hHeld2
   clear hHeld2
   try simp only [Act.put,x2,x3,x4,x5,x6,x7]
   refine r1 (i:=9) rfl (fun K hK=>?_)
   go_simp
   (with_reducible refine (fits2 _ A B 64 r HR.out).mono ?_)
   rintro e w1 ⟨rfl,hb1⟩
   go_wp2_with fail
   refine hK.out _ _ (bl_trans hHeld hb1) (fun hHeld2=>?_)
   clear hK K hHeld
   have hHeld:=hHeld2
   clear hHeld2
   try simp only [Act.put,x2,x3,x4,x5,x6,x7]
   refine tk (i:=10) (v:=?_) rfl (Or.inl ⟨by rfl,?_⟩) ?_
   rotate_left;· rintro _ -;go_simp;all_goals (with_reducible rfl)
   try simp only [Act.put,x2,x3,x4,x5,x6,x7]
   refine wpAnyH_done (by kernel_rfl) ?_ _
   have HBz:=Lib.hid (bl_trans HB2.out hHeld)
   clear hHeld HV HB HB2 HK1 HK2
   cases r
   ·have HN:Hid (fitK kk p l=false):=by
     unfold Hid;rw [Bool.eq_false_iff];intro h
     have:=fitK_iff.1 h k hlt
     rw [HEN.out] at this;have h2:=HR.out;rw [this.1,this.2] at h2;cases h2
    go_wp2_with fail
    go_ret
    exact ⟨by rw [HN.out];rfl,HBz.out⟩
   ·obtain ⟨m1,m2,m3,m4⟩:=wnum (i:=k) (by omega)
    go_wp2_with fail
    clear m1 m2 m3 m4
    refine ⟨⟨k + 1,hlt,by rw [Int.natCast_add];rfl,fun i hi=>?_,HBz.out⟩,by simp [intOf];omega⟩
    rcases Nat.lt_or_eq_of_le (Nat.le_of_lt_succ hi) with h | rfl
    ·exact HS.out i h
    ·rw [HEN.out];exact Bool.and_eq_true_iff.1 HR.out
  ·obtain rfl:k=l.length:=by omega
   have b2:((l.length:Int) < (l.length:Int))=False:=eq_false (by omega)
   have HY:Hid (fitK kk p l=true):=fitK_iff.2 HS.out
   go_wp2_with fail
   go_ret
   exact ⟨by rw [HY.out];rfl,HB.out⟩

set_option maxHeartbeats 8000000 in
set_option maxRecDepth 100000 in
theorem locate_l (p l:List Pt) (q:Pt) (ap al:Option Addr) (cp cl:Nat) (kk:Int) (hk0:0 ≤ kk) (hk3:kk ≤ 3) (w:World) (hP:PtRow w ap p) (hL:PtRow w al l) (hll:l.length ≤ 10000) (hpr:properL p l=true) (hft:fitK kk p l=true) (fq:fitB q=true) :
  Calls Tryz.prog 83 #[.slice al l.length cl,(.func (.func 84) #[.agg #[.slice ap p.length cp,.int .i64 kk]] #[]),.agg #[.int .i64 q.x,.int .i64 q.y]] w (Gives (.int .i64 (whereZ kk p l q)) w):=by
 have HP:=Lib.hid hP
 have HL:=Lib.hid hL
 have HPr:=Lib.hid hpr
 have HFt:=Lib.hid hft
 have HFq:=Lib.hid fq
 clear hP hL hpr hft fq
 go_enter Tryz.func83,Tryz.ntmps83
 go_upto_region 1 with (fail)
 have HQ0:=Lib.hid (var2_new w (.int .i64 q.x) (.int .i64 q.y) 64 w.heap.size rfl)
 have HB0:=Lib.hid (bl_one w (.cells #[.int .i64 q.x,.int .i64 q.y] 64))
 generalize w.alloc (.cells #[.int .i64 q.x,.int .i64 q.y] 64)=W1 at *
 go_wp2_with fail
 go_loopw [7,12] (fun ov iv W=>∃ k:Nat,k ≤ l.length∧iv=.int .i64 k∧(∀ i,i < k → onB (endsOf kk p l i).1 (endsOf kk p l i).2 q=false)∧ov=.bool (xorN (fun i=>rightB (endsOf kk p l i).1 (endsOf kk p l i).2 q) k)∧Below W1.heap.size W1 W) (fun _ iv _=>l.length - (intOf iv).toNat)
 case atStart=>exact ⟨0,Nat.zero_le _,rfl,fun i hi=>absurd hi (Nat.not_lt_zero _),rfl,Below.refl _ _⟩
 case round=>
  obtain ⟨k,hk,rfl,hS,rfl,hB⟩:=hrel
  have HBb:=Lib.hid hB
  have HB:=Lib.hid (bl_trans HB0.out hB)
  have HS:=Lib.hid hS
  clear hB hS
  by_cases hlt:k < l.length
  ·have b2:((k:Int) < (l.length:Int))=True:=eq_true (by omega)
   have d2:(k < l.length)=True:=eq_true hlt
   have c2:((0:Int) ≤ (k:Int))=True:=eq_true (by omega)
   obtain ⟨g,o,rfl⟩:=HL.out.some (by omega)
   obtain ⟨s,hs⟩:∃ s,pget l k=s:=⟨_,rfl⟩
   obtain ⟨k0,k1⟩:=ptRow_at (HL.out.below HB.out) hlt hs
   obtain ⟨x,hx⟩:∃ x,s.x=x:=⟨_,rfl⟩
   obtain ⟨y,hy⟩:∃ y,s.y=y:=⟨_,rfl⟩
   rw [hx] at k0
   rw [hy] at k1
   obtain ⟨hkx,hky,-⟩:=ok9_iff.1 (proper_iff.1 HPr.out k hlt)
   rw [hs,hx] at hkx
   rw [hs,hy] at hky
   obtain ⟨A,hA⟩:∃ A,scaleP kk (ptI p x)=A:=⟨_,rfl⟩
   obtain ⟨B,hBB⟩:∃ B,scaleP kk (ptI p y)=B:=⟨_,rfl⟩
   have HEN:Hid (endsOf kk p l k=(A,B)):=by
    unfold Hid endsOf
    rw [hs,hx,hy,hA,hBB]
   go_upto_region 5 with (fail)
   have HV:=Lib.hid (var2_new wr (.int .i64 x) (.int .i64 y) 59 wr.heap.size rfl)
   have HBb2:=Lib.hid (bl_trans HBb.out (bl_one wr (.cells #[.int .i64 x,.int .i64 y] 59)))
   have HB2:=Lib.hid (bl_trans HB.out (bl_one wr (.cells #[.int .i64 x,.int .i64 y] 59)))
   generalize wr.alloc (.cells #[.int .i64 x,.int .i64 y] 59)=W2 at *
   generalize wr.heap.size=g8 at *
   clear k0 k1
   have HK1:Hid (∀ W,Below W2.heap.size W2 W → Calls Tryz.prog 84 #[.agg #[.slice ap p.length cp,.int .i64 kk],.int .i64 x] W (Gives (.agg #[.int .i64 A.x,.int .i64 A.y]) W)):=fun W h=>by
    have:=point_l p ap cp kk x W (HP.out.below (bl_trans HB2.out h)) hkx hk0 hk3
    rwa [hA] at this
   have HK2:Hid (∀ W,Below W2.heap.size W2 W → Calls Tryz.prog 84 #[.agg #[.slice ap p.length cp,.int .i64 kk],.int .i64 y] W (Gives (.agg #[.int .i64 B.x,.int .i64 B.y]) W)):=fun W h=>by
    have:=point_l p ap cp kk y W (HP.out.below (bl_trans HB2.out h)) hky hk0 hk3
    rwa [hBB] at this
   have hfk:=fitK_iff.1 HFt.out k hlt
   rw [HEN.out] at hfk
   have HSI:Hid (∀ W,Calls Tryz.prog 110 #[.agg #[.int .i64 A.x,.int .i64 A.y],.agg #[.int .i64 B.x,.int .i64 B.y],.agg #[.int .i64 q.x,.int .i64 q.y]] W (Gives (.int .i64 (sideZ A B q)) W)):=fun W=>side_l A B q hfk.1 hfk.2 HFq.out W
   have HOn:Hid (onB (endsOf kk p l k).1 (endsOf kk p l k).2 q=onB A B q):=by unfold Hid;rw [HEN.out]
   have HRi:Hid (rightB (endsOf kk p l k).1 (endsOf kk p l k).2 q=rightB A B q):=by unfold Hid;rw [HEN.out]
   have HSz:Hid (sideZ A B q=if onB A B q=true then 1 else if rightB A B q=true then 2 else 0):=rfl
   generalize sideZ A B q=sz at *
   generalize onB A B q=so at *
   generalize rightB A B q=sr at *
   clear hs hx hy hkx hky hA hBB hfk HEN
   refine wp_region_held_drew (S:=fun V=>Below W2.heap.size W2 V) (by kernel_rfl) ?_ (fun hHeld=>?_)
   ·exact bel_drew W2
   revert hHeld
   generalize World.drew _=W1
   intro hHeld 
   refine tk (i:=0) (v:=?_) rfl (Or.inl ⟨by rfl,?_⟩) ?_
   rotate_left;· rintro _ -;go_simp;all_goals (with_reducible rfl)
   try simp only [Act.put,x2,x4,x5,x6,x7]
   refine tk (i:=1) (v:=?_) rfl (Or.inl ⟨by rfl,?_⟩) ?_
   rotate_left;· rintro _ -;go_simp;all_goals (with_reducible rfl)
   try simp only [Act.put,x2,x3,x4,x5,x6,x7]
   refine tk (i:=2) (v:=?_) rfl (Or.inl ⟨by rfl,?_⟩) ?_
   rotate_left
   ·intro Wq hSw
    obtain ⟨v0,v1⟩:=(HV.out.below hSw).two
    clear hSw
    go_simp;all_goals (with_reducible rfl)
   try simp only [Act.put,x2,x3,x4,x5,x6,x7]
   refine tk (i:=4) (v:=?_) rfl (Or.inl ⟨by rfl,?_⟩) ?_
   rotate_left;· rintro _ -;go_simp;all_goals (with_reducible rfl)
   try simp only [Act.put,x2,x3,x4,x5,x6,x7]
   refine tk (i:=5) (v:=?_) rfl (Or.inl ⟨by rfl,?_⟩) ?_
   rotate_left;· rintro _ -;go_simp;all_goals (with_reducible rfl)
   try simp only [Act.put,x2,x3,x4,x5,x6,x7]
   refine tk (i:=6) (v:=?_) rfl (Or.inl ⟨by rfl,?_⟩) ?_
   rotate_left
   ·intro Wq hSw
    obtain ⟨v0,v1⟩:=(HV.out.below hSw).two
    clear hSw
    go_simp;all_goals (with_reducible rfl)
   try simp only [Act.put,x2,x3,x4,x5,x6,x7]
   refine tk (i:=8) (v:=?_) rfl (Or.inl ⟨by rfl,?_⟩) ?_
   rotate_left
   ·intro Wq hSw
    obtain ⟨v0,v1⟩:=(HQ0.out.below (bl_trans HBb2.out hSw)).two
    clear hSw
    go_simp;all_goals (with_reducible rfl)
   try simp only [Act.put,x2,x3,x4,x5,x6,x7]
   refine r1 (i:=3) rfl (fun K hK=>?_)
   go_simp
   (with_reducible refine (HK1.out _ hHeld).mono ?_)
   rintro e w1 ⟨rfl,hb1⟩
   go_wp2_with fail
   refine hK.out _ _ (bl_trans hHeld hb1) (fun hHeld2=>?_)
   clear hK K hHeld
   have hHeld:=hHeld2
   clear hHeld2
   try simp only [Act.put,x2,x3,x4,x5,x6,x7]
   refine r1 (i:=7) rfl (fun K hK=>?_)
   go_simp
   (with_reducible refine (HK2.out _ hHeld).mono ?_)
   rintro e w1 ⟨rfl,hb1⟩
   go_wp2_with fail
   refine hK.out _ _ (bl_trans hHeld hb1) (fun hHeld2=>?_)
   clear hK K hHeld
   have hHeld:=hHeld2
   clear hHeld2
   try simp only [Act.put,x2,x3,x4,x5,x6,x7]
   refine r1 (i:=9) rfl (fun K hK=>?_)
   go_simp
   (with_reducible refine (HSI.out _).mono ?_)
   rintro e w1 ⟨rfl,hb1⟩
   go_wp2_with fail
   refine hK.out _ _ (bl_trans hHeld hb1) (fun hHeld2=>?_)
   clear hK K hHeld
   have hHeld:=hHeld2
   clear hHeld2
   try simp only [Act.put,x2,x3,x4,x5,x6,x7]
   refine wpAnyH_done (by kernel_rfl) ?_ _
   have HBz:=Lib.hid (bl_trans HBb2.out hHeld)
   have HBy:=Lib.hid (bl_trans HB2.out hHeld)
   clear hHeld HV HB HB2 HBb HBb2 HK1 HK2 HSI
   have hxs:=xorN_succ (fun i=>rightB (endsOf kk p l i).1 (endsOf kk p l i).2 q) k
   rw [HRi.out] at hxs
   have HXS:=Lib.hid hxs
   clear hxs
   generalize xorN (fun i=>rightB (endsOf kk p l i).1 (endsOf kk p l i).2 q) k=od at *
   have m:(so=true∧sz=1) ∨ (so=false∧sr=true∧sz=2) ∨ (so=false∧sr=false∧sz=0):=by
    rw [HSz.out];cases so <;> cases sr <;> simp
   clear HSz
   rcases m with ⟨rfl,rfl⟩ | ⟨rfl,rfl,rfl⟩ | ⟨rfl,rfl,rfl⟩
   ·have HN:Hid (whereZ kk p l q=0):=by
     unfold Hid whereZ whereN
     rw [if_pos (anyN_yes hlt HOn.out)]
    go_wp2_with fail
    go_ret
    exact ⟨by rw [HN.out];rfl,HBy.out⟩
   ·obtain ⟨m1,m2,m3,m4⟩:=wnum (i:=k) (by omega)
    go_wp2_with fail
    clear m1 m2 m3 m4
    refine ⟨⟨k + 1,hlt,by rw [Int.natCast_add];rfl,fun i hi=>?_,by rw [HXS.out];cases od <;> rfl,HBz.out⟩,by simp [intOf];omega⟩
    rcases Nat.lt_or_eq_of_le (Nat.le_of_lt_succ hi) with h | rfl
    ·exact HS.out i h
    ·exact HOn.out
   ·obtain ⟨m1,m2,m3,m4⟩:=wnum (i:=k) (by omega)
    go_wp2_with fail
    clear m1 m2 m3 m4
    refine ⟨⟨k + 1,hlt,by rw [Int.natCast_add];rfl,fun i hi=>?_,by rw [HXS.out];cases od <;> rfl,HBz.out⟩,by simp [intOf];omega⟩
    rcases Nat.lt_or_eq_of_le (Nat.le_of_lt_succ hi) with h | rfl
    ·exact HS.out i h
    ·exact HOn.out
  ·obtain rfl:k=l.length:=by omega
   have b2:((l.length:Int) < (l.length:Int))=False:=eq_false (by omega)
   have HN:Hid (anyN (fun i=>onB (endsOf kk p l i).1 (endsOf kk p l i).2 q) l.length=false):=anyN_no.2 HS.out
   have HZ:Hid (whereZ kk p l q=if xorN (fun i=>rightB (endsOf kk p l i).1 (endsOf kk p l i).2 q) l.length=true then 1 else -1):=by
    unfold Hid whereZ whereN
    rw [HN.out];rfl
   generalize xorN (fun i=>rightB (endsOf kk p l i).1 (endsOf kk p l i).2 q) l.length=od at *
   cases od
   ·go_wp2_with fail
    go_ret
    exact ⟨by rw [HZ.out];rfl,HB.out⟩
   ·go_wp2_with fail
    go_ret
    exact ⟨by rw [HZ.out];rfl,HB.out⟩
end Go.Proofs.YtpjaefcmaiimlaaGreat

/-
  Contracts of within's mean, At, Halfway, Third.
-/
namespace Go.Proofs.YtpjaefcmaiimlaaGreat
open Go.RowKit

set_option maxHeartbeats 8000000 in
set_option maxRecDepth 100000 in
theorem mean_l (p l:List Pt) (is:List Int) (ap al:Option Addr) (gi oi:Nat) (cp cl ci:Nat) (w:World) (hP:PtRow w ap p) (hL:PtRow w al l) (hI:IntRow w (some ⟨gi,oi,none⟩) is) (hll:l.length ≤ 10000) (h3:is.length ≤ 3) :
  Calls Tryz.prog 93 #[.slice ap p.length cp,.slice al l.length cl,.slice (some ⟨gi,oi,none⟩) is.length ci] w (Gives (.tuple #[.int .i64 (midN p l is),.int .i64 (midE p l is)]) w):=by
 have HP:=Lib.hid hP
 have HL:=Lib.hid hL
 have HI:=Lib.hid hI
 clear hP hL hI
 go_enter Tryz.func93,Tryz.ntmps93
 go_upto_region 2 with (fail)
 have HV0:=Lib.hid (var2_new w (.int .i64 0) (.int .i64 0) 64 w.heap.size rfl)
 have HB0:=Lib.hid (bl_one w (.cells #[.int .i64 0,.int .i64 0] 64))
 generalize w.alloc (.cells #[.int .i64 0,.int .i64 0] 64)=W1 at *
 go_wp2_with fail
 go_loopw [14] (fun iv W=>∃ k:Nat,k ≤ is.length∧iv=.int .i64 k∧(∀ i,∀ h:i < is.length,i < k → knownB p is[i]=true)∧Var W w.heap.size [.int .i64 (sumP p (is.take k)).x,.int .i64 (sumP p (is.take k)).y]∧BdP k (sumP p (is.take k))∧Below w.heap.size w W) (fun iv _=>is.length - (intOf iv).toNat)
 case atStart=>exact ⟨0,Nat.zero_le _,rfl,fun i _ hi=>absurd hi (Nat.not_lt_zero _),HV0.out,by unfold BdP sumP;simp,HB0.out⟩
 case round=>
  obtain ⟨k,hk,rfl,hS,hV,hb,hB⟩:=hrel
  have HB:=Lib.hid hB
  have HS:=Lib.hid hS
  have HV:=Lib.hid hV
  have HBd:=Lib.hid hb
  clear hB hS hV hb HV0 HB0
  by_cases hlt:k < is.length
  ·have b2:((k:Int) < (is.length:Int))=True:=eq_true (by omega)
   have d2:(k < is.length)=True:=eq_true hlt
   have c2:((0:Int) ≤ (k:Int))=True:=eq_true (by omega)
   obtain ⟨x,hx⟩:∃ x,is[k]=x:=⟨_,rfl⟩
   have k0:=intRow_at (HI.out.below HB.out) hlt hx
   have HX:=Lib.hid hx
   obtain ⟨r,hr⟩:∃ r,knownB p x=r:=⟨_,rfl⟩
   have HK:Hid (∀ W,Below wr.heap.size wr W → Calls Tryz.prog 109 #[.slice ap p.length cp,.int .i64 x] W (Gives (.bool r) W)):=fun W h=>by
    have:=known9_l p ap cp x W (HP.out.below (bl_trans HB.out h))
    rwa [hr] at this
   have HR:=Lib.hid hr
   clear hx hr
   go_wp2_with fail
   (with_reducible refine (HK.out _ (Below.refl _ _)).mono ?_);rintro e w2 ⟨rfl,hb2⟩
   replace HV:=Lib.hid (HV.out.below hb2)
   replace HB:=Lib.hid (bl_trans HB.out hb2)
   clear hb2 HK k0
   cases r
   ·have HNo:Hid (is.all (knownB p)=false):=by
     unfold Hid
     rw [List.all_eq_false]
     exact ⟨x,by rw [← HX.out];exact List.getElem_mem _,by rw [HR.out];simp⟩
    have HZ:Hid (midN p l is=0∧midE p l is=2):=by
     unfold Hid midN midE
     rw [HNo.out];exact ⟨rfl,rfl⟩
    go_wp2_with fail
    go_ret2
    exact ⟨by rw [HZ.out.1,HZ.out.2];rfl,HB.out⟩
   ·obtain ⟨h0,h1,hf⟩:=known_iff.1 HR.out
    obtain ⟨a,rfl⟩:=Int.eq_ofNat_of_zero_le h0
    have hap:a < p.length:=by omega
    obtain ⟨gp,op,rfl⟩:=HP.out.some (by omega)
    obtain ⟨q,hq⟩:∃ q,pget p a=q:=⟨_,rfl⟩
    have hqq:ptI p (a:Int)=q:=by unfold ptI;rw [Int.toNat_natCast,hq]
    rw [hqq] at hf
    have hfi:=fitB_iff.1 hf
    have HSn:Hid (sumP p (is.take (k + 1))=⟨(sumP p (is.take k)).x + q.x,(sumP p (is.take k)).y + q.y⟩):=by
     unfold Hid
     rw [List.take_succ_eq_append_getElem hlt,sumP_snoc,HX.out,hqq]
    obtain ⟨sm,hsm⟩:∃ s,sumP p (is.take k)=s:=⟨_,rfl⟩
    rw [hsm] at HV HSn HBd
    have hbd:=HBd.out
    unfold Pt.fits at hfi
    unfold BdP at hbd
    have HBd2:Hid (BdP ((k:Int) + 1) ⟨sm.x + q.x,sm.y + q.y⟩):=by
     unfold Hid BdP;dsimp only;omega
    obtain ⟨k0,k1⟩:=ptRow_at (HP.out.below HB.out) hap hq
    obtain ⟨c0,c1⟩:=HV.out.two
    obtain ⟨f0,f1⟩:=HV.out.free2
    have b3:((a:Int) < (p.length:Int))=True:=eq_true (by omega)
    have d3:(a < p.length)=True:=eq_true hap
    have c3:((0:Int) ≤ (a:Int))=True:=eq_true h0
    have hgp:gp < w.heap.size:=cell_lt (ptRow_at HP.out hap hq).1
    have hgw:=HV.out.lt
    have m1:wrap64 (sm.x + q.x)=sm.x + q.x:=by unfold wrap64;omega
    have m2:IntKind.i64.wrap (sm.x + q.x)=sm.x + q.x:=IntWalk.i64_in _ (by omega)
    have m3:wrap64 (sm.y + q.y)=sm.y + q.y:=by unfold wrap64;omega
    have m4:IntKind.i64.wrap (sm.y + q.y)=sm.y + q.y:=IntWalk.i64_in _ (by omega)
    have HQ:=Lib.hid hq
    clear h0 h1 hf hqq hq hfi hsm hbd HBd
    go_upto_region 7 with (fail)
    go_region
    go_upto_region 8 with (fail)
    have HV7:=Lib.hid ((HV.out.put0 (.int .i64 (sm.x + q.x))).below (bel_drew _))
    replace HB:=Lib.hid (bl_trans (bl_set HB.out (p:=⟨w.heap.size,0,none⟩) (Nat.le_refl _) (.int .i64 (sm.x + q.x))) (bel_drew _))
    clear k0 k1 c0 c1 f0 f1 HV
    generalize ((w2.setCell ⟨w.heap.size,0,none⟩ (.int .i64 (sm.x + q.x))).drew)=W7 at *
    obtain ⟨k0,k1⟩:=ptRow_at (HP.out.below HB.out) hap HQ.out
    obtain ⟨c0,c1⟩:=HV7.out.two
    obtain ⟨f0,f1⟩:=HV7.out.free2
    have hgw7:=HV7.out.lt
    go_region
    obtain ⟨n1,n2,n3,n4⟩:=wnum (i:=k) (by omega)
    go_wp2_with fail
    clear n1 n2 n3 n4 m1 m2 m3 m4
    refine ⟨⟨k + 1,hlt,by rw [Int.natCast_add];rfl,fun i h hi=>?_,?_,?_,?_⟩,by simp [intOf];omega⟩
    ·rcases Nat.lt_or_eq_of_le (Nat.le_of_lt_succ hi) with h4 | rfl
     ·exact HS.out i h h4
     ·rw [HX.out];exact HR.out
    ·rw [HSn.out]
     exact (HV7.out.put1 (.int .i64 (sm.y + q.y))).below (bel_drew _)
    ·rw [HSn.out,Int.natCast_add];exact HBd2.out
    ·exact bl_trans (bl_set HB.out (p:=⟨w.heap.size,1,none⟩) (Nat.le_refl _) (.int .i64 (sm.y + q.y))) (bel_drew _)
  ·obtain rfl:k=is.length:=by omega
   have b2:((is.length:Int) < (is.length:Int))=False:=eq_false (by omega)
   have HAl:Hid (is.all (knownB p)=true):=by
    unfold Hid
    rw [List.all_eq_true]
    intro x hx
    obtain ⟨i,hi,rfl⟩:=List.getElem_of_mem hx
    exact HS.out i hi hi
   rw [List.take_length] at HV
   have HZ:Hid (midN p l is=atN is.length p l (sumP p is)∧midE p l is=atE is.length p l (sumP p is)):=by
    unfold Hid midN midE
    rw [HAl.out];exact ⟨rfl,rfl⟩
   obtain ⟨sm,hsm⟩:∃ s,sumP p is=s:=⟨_,rfl⟩
   rw [hsm] at HV HZ
   have HC1:=Lib.hid (proper9_l p l ap al cp cl wr (HP.out.below HB.out) (HL.out.below HB.out) hll)
   obtain ⟨r1,hr1⟩:∃ r,properL p l=r:=⟨_,rfl⟩
   obtain ⟨r2,hr2⟩:∃ r,fitK is.length p l=r:=⟨_,rfl⟩
   obtain ⟨r3,hr3⟩:∃ r,fitB sm=r:=⟨_,rfl⟩
   have HAt:Hid (atB is.length p l sm=(r1 && r2 && r3)):=by unfold Hid atB;rw [hr1,hr2,hr3]
   rw [hr1] at HC1
   have HR1:=Lib.hid hr1
   have HR2:=Lib.hid hr2
   have HR3:=Lib.hid hr3
   clear hsm hr1 hr2 hr3 HS HBd HAl HI
   have RET:atB is.length p l sm=false → midN p l is=0∧midE p l is=2:=fun h=>by
    rw [HZ.out.1,HZ.out.2];unfold atN atE;rw [h];exact ⟨rfl,rfl⟩
   have HRET:=Lib.hid RET
   clear RET
   go_wp2_with fail
   (with_reducible refine HC1.out.mono ?_);rintro e w2 ⟨rfl,hb2⟩
   replace HV:=Lib.hid (HV.out.below hb2)
   replace HB:=Lib.hid (bl_trans HB.out hb2)
   clear hb2 HC1
   cases r1
   ·obtain ⟨z1,z2⟩:=HRET.out HAt.out
    have HZ2:=Lib.hid (And.intro z1 z2)
    clear z1 z2
    go_wp2_with fail
    go_ret2
    exact ⟨by rw [HZ2.out.1,HZ2.out.2];rfl,HB.out⟩
   have HC2:=Lib.hid (fit9_l p l ap al cp cl is.length (by omega) (by omega) w2 (HP.out.below HB.out) (HL.out.below HB.out) hll HR1.out)
   rw [HR2.out] at HC2
   go_wp2_with fail
   (with_reducible refine HC2.out.mono ?_);rintro e w3 ⟨rfl,hb2⟩
   replace HV:=Lib.hid (HV.out.below hb2)
   replace HB:=Lib.hid (bl_trans HB.out hb2)
   clear hb2 HC2
   cases r2
   ·obtain ⟨z1,z2⟩:=HRET.out HAt.out
    have HZ2:=Lib.hid (And.intro z1 z2)
    clear z1 z2
    go_wp2_with fail
    go_ret2
    exact ⟨by rw [HZ2.out.1,HZ2.out.2];rfl,HB.out⟩
   obtain ⟨c0,c1⟩:=HV.out.two
   have HF:=Lib.hid (fits1 w3 sm 64 r3 HR3.out)
   go_wp2_with fail
   (with_reducible refine HF.out.mono ?_);rintro e w4 ⟨rfl,hb2⟩
   have hb3:=bl_trans (bl_one w3 (.cells #[.int .i64 sm.x,.int .i64 sm.y] 64)) hb2
   replace HV:=Lib.hid (HV.out.below hb3)
   replace HB:=Lib.hid (bl_trans HB.out hb3)
   clear hb2 hb3 HF c0 c1
   cases r3
   ·obtain ⟨z1,z2⟩:=HRET.out HAt.out
    have HZ2:=Lib.hid (And.intro z1 z2)
    clear z1 z2
    go_wp2_with fail
    go_ret2
    exact ⟨by rw [HZ2.out.1,HZ2.out.2];rfl,HB.out⟩
   have HC3:=Lib.hid (locate_l p l sm ap al cp cl is.length (by omega) (by omega) w4 (HP.out.below HB.out) (HL.out.below HB.out) hll HR1.out HR2.out HR3.out)
   have HZ2:Hid (midN p l is=whereZ is.length p l sm∧midE p l is=0):=by
    unfold Hid
    rw [HZ.out.1,HZ.out.2]
    unfold atN atE
    rw [HAt.out];exact ⟨rfl,rfl⟩
   obtain ⟨c0,c1⟩:=HV.out.two
   go_wp2_with fail
   (with_reducible refine HC3.out.mono ?_);rintro e w5 ⟨rfl,hb2⟩
   replace HB:=Lib.hid (bl_trans HB.out hb2)
   clear hb2 HC3 c0 c1 HV
   go_wp2_with fail
   go_ret2
   exact ⟨by rw [HZ2.out.1,HZ2.out.2];rfl,HB.out⟩

set_option maxHeartbeats 8000000 in
set_option maxRecDepth 100000 in
theorem at9_l (p l:List Pt) (q:Pt) (ap al:Option Addr) (cp cl:Nat) (w:World) (hP:PtRow w ap p) (hL:PtRow w al l) (hll:l.length ≤ 10000) :
  Calls Tryz.prog 53 #[.slice ap p.length cp,.slice al l.length cl,.agg #[.int .i64 q.x,.int .i64 q.y]] w (Gives (.tuple #[.int .i64 (atN 1 p l q),.int .i64 (atE 1 p l q)]) w):=by
 have HP:=Lib.hid hP
 have HL:=Lib.hid hL
 clear hP hL
 go_enter Tryz.func53,Tryz.ntmps53
 go_upto_region 1 with (fail)
 have HV:=Lib.hid (var2_new w (.int .i64 q.x) (.int .i64 q.y) 64 w.heap.size rfl)
 have HB:=Lib.hid (bl_one w (.cells #[.int .i64 q.x,.int .i64 q.y] 64))
 generalize w.alloc (.cells #[.int .i64 q.x,.int .i64 q.y] 64)=W1 at *
 have HC1:=Lib.hid (proper9_l p l ap al cp cl W1 (HP.out.below HB.out) (HL.out.below HB.out) hll)
 obtain ⟨r1,hr1⟩:∃ r,properL p l=r:=⟨_,rfl⟩
 obtain ⟨r3,hr3⟩:∃ r,fitB q=r:=⟨_,rfl⟩
 have HAt:Hid (atB 1 p l q=(r1 && r3)):=by
  unfold Hid atB
  rw [hr1,hr3]
  cases r1
  ·rfl
  ·rw [fitK_one hr1];rfl
 rw [hr1] at HC1
 have HR1:=Lib.hid hr1
 have HR3:=Lib.hid hr3
 clear hr1 hr3
 have RET:atB 1 p l q=false → atN 1 p l q=0∧atE 1 p l q=2:=fun h=>by
  unfold atN atE;rw [h];exact ⟨rfl,rfl⟩
 have HRET:=Lib.hid RET
 clear RET
 go_wp2_with fail
 (with_reducible refine HC1.out.mono ?_);rintro e w2 ⟨rfl,hb2⟩
 replace HV:=Lib.hid (HV.out.below hb2)
 replace HB:=Lib.hid (bl_trans HB.out hb2)
 clear hb2 HC1
 cases r1
 ·have HZ2:=Lib.hid (HRET.out HAt.out)
  go_wp2_with fail
  go_ret2
  exact ⟨by rw [HZ2.out.1,HZ2.out.2];rfl,HB.out⟩
 obtain ⟨c0,c1⟩:=HV.out.two
 have HF:=Lib.hid (fits1 w2 q 64 r3 HR3.out)
 go_wp2_with fail
 (with_reducible refine HF.out.mono ?_);rintro e w4 ⟨rfl,hb2⟩
 have hb3:=bl_trans (bl_one w2 (.cells #[.int .i64 q.x,.int .i64 q.y] 64)) hb2
 replace HV:=Lib.hid (HV.out.below hb3)
 replace HB:=Lib.hid (bl_trans HB.out hb3)
 clear hb2 hb3 HF c0 c1
 cases r3
 ·have HZ2:=Lib.hid (HRET.out HAt.out)
  go_wp2_with fail
  go_ret2
  exact ⟨by rw [HZ2.out.1,HZ2.out.2];rfl,HB.out⟩
 have HC3:=Lib.hid (locate_l p l q ap al cp cl 1 (by omega) (by omega) w4 (HP.out.below HB.out) (HL.out.below HB.out) hll HR1.out (fitK_one HR1.out) HR3.out)
 have HZ2:Hid (atN 1 p l q=whereZ 1 p l q∧atE 1 p l q=0):=by
  unfold Hid atN atE
  rw [HAt.out];exact ⟨rfl,rfl⟩
 obtain ⟨c0,c1⟩:=HV.out.two
 go_wp2_with fail
 (with_reducible refine HC3.out.mono ?_);rintro e w5 ⟨rfl,hb2⟩
 replace HB:=Lib.hid (bl_trans HB.out hb2)
 clear hb2 HC3 c0 c1 HV
 go_wp2_with fail
 go_ret2
 exact ⟨by rw [HZ2.out.1,HZ2.out.2];rfl,HB.out⟩
theorem intRow_n2 (W:World) (a b:Int) (t:TypeId):IntRow (W.alloc (.cells #[.int .i64 a,.int .i64 b] t)) (some ⟨W.heap.size,0,none⟩) [a,b]:=by
 intro i hi
 refine ⟨_,_,rfl,?_⟩
 match i,hi with
 | 0,_=>simp [go_sem]
 | 1,_=>simp [go_sem]
set_option maxHeartbeats 8000000 in
set_option maxRecDepth 100000 in
theorem half9_l (p l:List Pt) (a b:Int) (ap al:Option Addr) (cp cl:Nat) (w:World) (hP:PtRow w ap p) (hL:PtRow w al l) (hll:l.length ≤ 10000) :
  Calls Tryz.prog 70 #[.slice ap p.length cp,.slice al l.length cl,.int .i64 a,.int .i64 b] w (Gives (.tuple #[.int .i64 (midN p l [a,b]),.int .i64 (midE p l [a,b])]) w):=by
 have HM:Hid (Calls Tryz.prog 93 #[.slice ap p.length cp,.slice al l.length cl,.slice (some ⟨w.heap.size,0,none⟩) 2 2] (w.alloc (.cells #[.int .i64 a,.int .i64 b] 3)) (Gives (.tuple #[.int .i64 (midN p l [a,b]),.int .i64 (midE p l [a,b])]) (w.alloc (.cells #[.int .i64 a,.int .i64 b] 3)))):=
  mean_l p l [a,b] ap al w.heap.size 0 cp cl 2 _ (hP.below (bl_one _ _)) (hL.below (bl_one _ _)) (intRow_n2 w a b _) hll (by simp)
 clear hP hL
 generalize midN p l [a,b]=n at *
 generalize midE p l [a,b]=e at *
 go_enter Tryz.func70,Tryz.ntmps70
 go_wp2_with fail
 (with_reducible refine HM.out.mono ?_);rintro e w2 ⟨rfl,hb2⟩
 have HB:=Lib.hid (bl_trans (bl_one w (.cells #[.int .i64 a,.int .i64 b] 3)) hb2)
 clear hb2 HM
 go_wp2_with fail
 go_ret2
 exact ⟨rfl,HB.out⟩

end Go.Proofs.YtpjaefcmaiimlaaGreat
