/-
  Layer 10: the document's Inside.
-/
import Derived.Test.YtpjaefcmaiimlaaGreatVInM
import Derived.Test.YtpjaefcmaiimlaaGreatVRefL
set_option linter.unusedVariables false
set_option linter.unusedSimpArgs false
set_option linter.deprecated false
namespace Go.Proofs.YtpjaefcmaiimlaaGreat
open Go.RowKit

theorem own_step {l i S:List Pt} (hS:l ++ i=S) {a b:Int} {k:Nat}:anyN (ownK l a b) (min (k + 1) l.length)=(anyN (ownK l a b) (min k l.length) || (decide (k < l.length) && ownK S a b k)):=by
 by_cases h:k < l.length
 ·rw [Nat.min_eq_left (by omega),Nat.min_eq_left (by omega),decide_eq_true h,Bool.true_and]
  have e:ownK S a b k=ownK l a b k:=by unfold ownK;rw [← hS,pget_left h]
  rw [e];rfl
 ·rw [Nat.min_eq_right (by omega),Nat.min_eq_right (by omega),decide_eq_false h,Bool.false_and,Bool.or_false]
set_option maxHeartbeats 16000000 in
set_option maxRecDepth 100000 in
theorem refInsideP10_l (p l i:List Pt) (a b:Int) (ap al ai:Option Addr) (cp cl ci:Nat) (w:World) (hA:Pol w ap al ai cp cl ci p l i) :
 Calls Tryz.prog 15 #[.agg #[.slice ap p.length cp,.slice al l.length cl,.slice ai i.length ci],.int .i64 a,.int .i64 b] w (Gives (.bool (insideF p l i a b)) w):=by
 have HA:=Lib.hid hA
 have HRt:=Lib.hid (fun W h=>refRight10_l p l i ap al ai cp cl ci W (hA.below h))
 clear hA
 go_enter Tryz.func15,Tryz.ntmps15
 go_upto_region 1 with (fail)
 have HV:=Lib.hid (var3_new w (.slice ap p.length cp) (.slice al l.length cl) (.slice ai i.length ci) 25 w.heap.size rfl)
 have HB:=Lib.hid (bl_one w (.cells #[.slice ap p.length cp,.slice al l.length cl,.slice ai i.length ci] 25))
 generalize w.alloc (.cells #[.slice ap p.length cp,.slice al l.length cl,.slice ai i.length ci] 25)=W1 at *
 obtain ⟨k0,k1,k2⟩:=HV.out.three
 obtain ⟨r,hr⟩:∃ r,rightI p l i=r:=⟨_,rfl⟩
 have HR:=Lib.hid hr
 rw [hr] at HRt
 clear hr
 go_wp2_with fail
 (with_reducible refine (HRt.out _ HB.out).mono ?_);rintro e w2 ⟨rfl,hb2⟩
 replace HB:=Lib.hid (bl_trans HB.out hb2)
 replace HV:=Lib.hid (HV.out.below hb2)
 clear hb2 HRt k0 k1 k2
 obtain ⟨k0,k1,k2⟩:=HV.out.three
 cases r with
 | false=>
  have HZ:Hid (insideF p l i a b=false):=by unfold Hid insideF;rw [HR.out];rfl
  go_wp2_with fail
  go_ret
  exact ⟨by rw [HZ.out];rfl,HB.out⟩
 | true=>
 by_cases h1:a < 0
 ·have x1:(a < 0)=True:=eq_true h1
  have x2:decide (a < 0)=true:=decide_eq_true h1
  have HZ:Hid (insideF p l i a b=false):=by
   unfold Hid insideF;rw [show twoB p a b=false from by unfold twoB;rw [decide_eq_true (show min a b < 0 by omega)];simp];simp
  go_wp2_with fail
  go_ret
  exact ⟨by rw [HZ.out];rfl,HB.out⟩
 have x1:(a < 0)=False:=eq_false h1
 have x2:decide (a < 0)=false:=decide_eq_false h1
 by_cases h2:b < 0
 ·have x3:(b < 0)=True:=eq_true h2
  have x4:decide (b < 0)=true:=decide_eq_true h2
  have HZ:Hid (insideF p l i a b=false):=by
   unfold Hid insideF;rw [show twoB p a b=false from by unfold twoB;rw [decide_eq_true (show min a b < 0 by omega)];simp];simp
  go_wp2_with fail
  go_ret
  exact ⟨by rw [HZ.out];rfl,HB.out⟩
 have x3:(b < 0)=False:=eq_false h2
 have x4:decide (b < 0)=false:=decide_eq_false h2
 by_cases h3:(p.length:Int) ≤ a
 ·have x5:((p.length:Int) ≤ a)=True:=eq_true h3
  have x6:decide ((p.length:Int) ≤ a)=true:=decide_eq_true h3
  have HZ:Hid (insideF p l i a b=false):=by
   unfold Hid insideF;rw [show twoB p a b=false from by unfold twoB;rw [decide_eq_true (show (p.length:Int) ≤ max a b by omega)];simp];simp
  go_wp2_with fail
  go_ret
  exact ⟨by rw [HZ.out];rfl,HB.out⟩
 have x5:((p.length:Int) ≤ a)=False:=eq_false h3
 have x6:decide ((p.length:Int) ≤ a)=false:=decide_eq_false h3
 by_cases h4:(p.length:Int) ≤ b
 ·have x7:((p.length:Int) ≤ b)=True:=eq_true h4
  have x8:decide ((p.length:Int) ≤ b)=true:=decide_eq_true h4
  have HZ:Hid (insideF p l i a b=false):=by
   unfold Hid insideF;rw [show twoB p a b=false from by unfold twoB;rw [decide_eq_true (show (p.length:Int) ≤ max a b by omega)];simp];simp
  go_wp2_with fail
  go_ret
  exact ⟨by rw [HZ.out];rfl,HB.out⟩
 have x7:((p.length:Int) ≤ b)=False:=eq_false h4
 have x8:decide ((p.length:Int) ≤ b)=false:=decide_eq_false h4
 by_cases h5:a=b
 ·have x9:(a=b)=True:=eq_true h5
  have x10:(a == b)=true:=beq_iff_eq.mpr h5
  have HZ:Hid (insideF p l i a b=false):=by
   unfold Hid insideF;rw [show twoB p a b=false from by unfold twoB;rw [decide_eq_true h5];simp];simp
  go_wp2_with fail
  go_ret
  exact ⟨by rw [HZ.out];rfl,HB.out⟩
 have x9:(a=b)=False:=eq_false h5
 have x10:(a == b)=false:=beq_eq_false_iff_ne.mpr h5
 go_wp2_with fail
 clear x1 x2 x3 x4 x5 x6 x7 x8 x9 x10 k0 k1 k2
 obtain ⟨an,rfl⟩:=Int.eq_ofNat_of_zero_le (show 0 ≤ a by omega)
 obtain ⟨bn,rfl⟩:=Int.eq_ofNat_of_zero_le (show 0 ≤ b by omega)
 have ha:an < p.length:=by omega
 have hb:bn < p.length:=by omega
 have hab:an ≠ bn:=fun e=>h5 (by rw [e])
 have HIs:=Lib.hid (refIn_is (l:=l) (i:=i) HR.out ha hb hab)
 clear h1 h2 h3 h4 h5
 obtain ⟨⟨ax,ay⟩,hA1⟩:∃ q,pget p an=q:=⟨_,rfl⟩
 obtain ⟨⟨bx,b_y⟩,hA2⟩:∃ q,pget p bn=q:=⟨_,rfl⟩
 have HP1:=Lib.hid hA1
 have HP2:=Lib.hid hA2
 have hc:=(right_iff10.1 HR.out).1
 have HC:=Lib.hid hc
 have HPn:=Lib.hid hc.n
 unfold refIn at HIs
 rw [hA1,hA2] at HIs
 clear hA1 hA2 hc
 have f1:(an < p.length)=True:=eq_true ha
 have f2:(bn < p.length)=True:=eq_true hb
 have g1:((an:Int) < (p.length:Int))=True:=eq_true (by omega)
 have g2:((bn:Int) < (p.length:Int))=True:=eq_true (by omega)
 have t1:((0:Int) ≤ (an:Int))=True:=eq_true (by omega)
 have t2:((0:Int) ≤ (bn:Int))=True:=eq_true (by omega)
 go_loopw [7] (fun iv W=>∃ k:Nat,k ≤ p.length∧iv=.int .i64 k∧(∀ q,q < k → insideB ⟨ax,ay⟩ ⟨bx,b_y⟩ (pget p q)=false)∧Below w2.heap.size w2 W) (fun iv _=>p.length - (intOf iv).toNat)
 case atStart=>exact ⟨0,Nat.zero_le _,rfl,fun a h=>absurd h (Nat.not_lt_zero _),Below.refl _ _⟩
 case round=>
  obtain ⟨k,hk,rfl,hn,hB⟩:=hrel
  have HNk:=Lib.hid hn
  have HB2:=Lib.hid hB
  clear hn hB
  obtain ⟨W3,eW⟩:∃ W3,W3=wr:=⟨_,rfl⟩
  subst eW
  obtain ⟨k0,k1,k2⟩:=(HV.out.below HB2.out).three
  by_cases hlt:k < p.length
  ·have b2:((k:Int) < (p.length:Int))=True:=eq_true (by omega)
   have d1:(k < p.length)=True:=eq_true hlt
   have c2:((0:Int) ≤ (k:Int))=True:=eq_true (by omega)
   obtain ⟨gp,op,rfl⟩:=HA.out.pp.some (by omega)
   obtain ⟨⟨qx,qy⟩,hq⟩:∃ q,pget p k=q:=⟨_,rfl⟩
   have HQ:=Lib.hid hq
   have HSg:=Lib.hid (fun W=>refInside_l ⟨ax,ay⟩ ⟨bx,b_y⟩ ⟨qx,qy⟩ W)
   dsimp only at HSg
   obtain ⟨r,hr⟩:∃ r,insideB ⟨ax,ay⟩ ⟨bx,b_y⟩ ⟨qx,qy⟩=r:=⟨_,rfl⟩
   have HI:Hid (insideB ⟨ax,ay⟩ ⟨bx,b_y⟩ (pget p k)=r):=by unfold Hid;rw [hq];exact hr
   rw [hr] at HSg
   clear hq hr
   go_upto_region 6 with (fail)
   clear k0 k1 k2
   refine wp_region_held_drew (S:=fun V=>Below W3.heap.size W3 V) (by kernel_rfl) ?_ (fun hHeld=>?_)
   ·exact bel_drew W3
   revert hHeld
   generalize World.drew _=W1
   intro hHeld 
   refine tk (i:=0) (v:=?_) rfl (Or.inl ⟨by rfl,?_⟩) ?_
   rotate_left;· rintro _ -;go_simp;all_goals (with_reducible rfl)
   try simp only [Act.put,pk2,pk4,pk5,pk6,pk7]
   refine tk (i:=1) (v:=?_) rfl (Or.inl ⟨by rfl,?_⟩) ?_
   rotate_left
   ·intro Wq hSw
    obtain ⟨k0,k1,k2⟩:=((HV.out.below HB2.out).below hSw).three
    clear hSw
    go_simp;all_goals (with_reducible rfl)
   try simp only [Act.put,pk2,pk3,pk4,pk5,pk6,pk7]
   refine tk (i:=2) (v:=?_) rfl (Or.inl ⟨by rfl,?_⟩) ?_
   rotate_left;· rintro _ -;go_simp;all_goals (with_reducible rfl)
   try simp only [Act.put,pk2,pk3,pk4,pk5,pk6,pk7]
   refine tk (i:=3) (v:=?_) rfl (Or.inl ⟨by rfl,?_⟩) ?_
   rotate_left;· rintro _ -;go_simp;all_goals (with_reducible rfl)
   try simp only [Act.put,pk2,pk3,pk4,pk5,pk6,pk7]
   refine tk (i:=4) (v:=?_) rfl (Or.inl ⟨by rfl,?_⟩) ?_
   rotate_left
   ·intro Wq hSw
    obtain ⟨c0,c1⟩:=ptRow_at (HA.out.pp.below (bl_trans HB.out (bl_trans HB2.out hSw))) ha HP1.out
    dsimp only at c0 c1
    clear hSw
    go_simp;all_goals (with_reducible rfl)
   try simp only [Act.put,pk2,pk3,pk4,pk5,pk6,pk7]
   refine tk (i:=5) (v:=?_) rfl (Or.inl ⟨by rfl,?_⟩) ?_
   rotate_left;· rintro _ -;go_simp;all_goals (with_reducible rfl)
   try simp only [Act.put,pk2,pk3,pk4,pk5,pk6,pk7]
   refine tk (i:=6) (v:=?_) rfl (Or.inl ⟨by rfl,?_⟩) ?_
   rotate_left
   ·intro Wq hSw
    obtain ⟨k0,k1,k2⟩:=((HV.out.below HB2.out).below hSw).three
    clear hSw
    go_simp;all_goals (with_reducible rfl)
   try simp only [Act.put,pk2,pk3,pk4,pk5,pk6,pk7]
   refine tk (i:=7) (v:=?_) rfl (Or.inl ⟨by rfl,?_⟩) ?_
   rotate_left;· rintro _ -;go_simp;all_goals (with_reducible rfl)
   try simp only [Act.put,pk2,pk3,pk4,pk5,pk6,pk7]
   refine tk (i:=8) (v:=?_) rfl (Or.inl ⟨by rfl,?_⟩) ?_
   rotate_left;· rintro _ -;go_simp;all_goals (with_reducible rfl)
   try simp only [Act.put,pk2,pk3,pk4,pk5,pk6,pk7]
   refine tk (i:=9) (v:=?_) rfl (Or.inl ⟨by rfl,?_⟩) ?_
   rotate_left
   ·intro Wq hSw
    obtain ⟨c0,c1⟩:=ptRow_at (HA.out.pp.below (bl_trans HB.out (bl_trans HB2.out hSw))) hb HP2.out
    dsimp only at c0 c1
    clear hSw
    go_simp;all_goals (with_reducible rfl)
   try simp only [Act.put,pk2,pk3,pk4,pk5,pk6,pk7]
   refine tk (i:=10) (v:=?_) rfl (Or.inl ⟨by rfl,?_⟩) ?_
   rotate_left;· rintro _ -;go_simp;all_goals (with_reducible rfl)
   try simp only [Act.put,pk2,pk3,pk4,pk5,pk6,pk7]
   refine tk (i:=11) (v:=?_) rfl (Or.inl ⟨by rfl,?_⟩) ?_
   rotate_left
   ·intro Wq hSw
    obtain ⟨k0,k1,k2⟩:=((HV.out.below HB2.out).below hSw).three
    clear hSw
    go_simp;all_goals (with_reducible rfl)
   try simp only [Act.put,pk2,pk3,pk4,pk5,pk6,pk7]
   refine tk (i:=12) (v:=?_) rfl (Or.inl ⟨by rfl,?_⟩) ?_
   rotate_left;· rintro _ -;go_simp;all_goals (with_reducible rfl)
   try simp only [Act.put,pk2,pk3,pk4,pk5,pk6,pk7]
   refine tk (i:=13) (v:=?_) rfl (Or.inl ⟨by rfl,?_⟩) ?_
   rotate_left;· rintro _ -;go_simp;all_goals (with_reducible rfl)
   try simp only [Act.put,pk2,pk3,pk4,pk5,pk6,pk7]
   refine tk (i:=14) (v:=?_) rfl (Or.inl ⟨by rfl,?_⟩) ?_
   rotate_left
   ·intro Wq hSw
    obtain ⟨c0,c1⟩:=ptRow_at (HA.out.pp.below (bl_trans HB.out (bl_trans HB2.out hSw))) hlt HQ.out
    dsimp only at c0 c1
    clear hSw
    go_simp;all_goals (with_reducible rfl)
   try simp only [Act.put,pk2,pk3,pk4,pk5,pk6,pk7]
   refine r1 (i:=15) rfl (fun K hK=>?_)
   go_simp
   (with_reducible refine (HSg.out _).mono ?_)
   rintro e w8 ⟨rfl,hb1⟩
   go_wp2_with fail
   refine hK.out _ _ (bl_trans hHeld hb1) (fun hHeld2=>?_)
   clear hK K hHeld
   have hHeld:=hHeld2
   clear hHeld2
   try simp only [Act.put,pk2,pk3,pk4,pk5,pk6,pk7]
   refine wpAnyH_done (by kernel_rfl) ?_ _
   replace HB2:=Lib.hid (bl_trans HB2.out hHeld)
   clear hHeld
   cases r with
   | true=>
    have HZ:Hid (insideF p l i an bn=false):=by unfold Hid;rw [← HIs.out,anyN_yes hlt HI.out];rfl
    replace HB:=Lib.hid (bl_trans HB.out HB2.out)
    go_wp2_with fail
    go_ret
    exact ⟨by rw [HZ.out];rfl,HB.out⟩
   | false=>
    obtain ⟨m1,m2,m3,m4⟩:=wnum (i:=k) (by have:=HPn.out;omega)
    go_wp2_with fail
    clear m1 m2 m3 m4
    exact ⟨⟨k + 1,hlt,by rw [Int.natCast_add];rfl,fun q hq=>by
     rcases Nat.lt_or_eq_of_le (Nat.le_of_lt_succ hq) with h | rfl
     ·exact HNk.out q h
     ·exact HI.out,HB2.out⟩,by simp [intOf];omega⟩
  ·obtain rfl:k=p.length:=by omega
   have b2:((p.length:Int) < (p.length:Int))=False:=eq_false (by omega)
   have H1:Hid (anyN (fun k=>insideB ⟨ax,ay⟩ ⟨bx,b_y⟩ (pget p k)) p.length=false):=anyN_no.2 HNk.out
   rw [H1.out,Bool.not_false,Bool.true_and] at HIs
   obtain ⟨S,hS⟩:∃ S,l ++ i=S:=⟨_,rfl⟩
   have HSS:=Lib.hid hS
   have HAl:=Lib.hid (fun W h=>refAll10_l p l i S hS ap al ai cp cl ci W (HA.out.below h))
   have HSl:Hid (S.length ≤ 800):=by unfold Hid;rw [← HSS.out,List.length_append];have h1:=HC.out.nl;have h2:=HC.out.ni;omega
   rw [hS] at HIs
   replace HB:=Lib.hid (bl_trans HB.out HB2.out)
   replace HV:=Lib.hid (HV.out.below HB2.out)
   clear HNk HB2 hk hlt hS H1
   go_wp2_with fail
   (with_reducible refine (HAl.out _ HB.out).mono ?_);rintro e w4 ⟨ad,cp2,rfl,hrow,hb2⟩
   have HSr:=Lib.hid hrow
   replace HB:=Lib.hid (bl_trans HB.out hb2)
   replace HV:=Lib.hid (HV.out.below hb2)
   clear hb2 HAl k0 k1 k2 hrow b2
   go_wp2_with fail
   go_loopw [9,10] (fun ov kv W=>∃ k:Nat,∃ d:Bool,k ≤ S.length∧kv=.int .i64 k∧ov=.bool d∧d=anyN (ownK l an bn) (min k l.length)∧(∀ j,j < k → (!(ownK S an bn j) && badB ⟨⟨ax,ay⟩,⟨bx,b_y⟩⟩ (segF p (pget S j)))=false)∧Below w4.heap.size w4 W) (fun _ kv _=>S.length - (intOf kv).toNat)
   case atStart=>exact ⟨0,false,Nat.zero_le _,rfl,rfl,by rw [Nat.zero_min];rfl,fun j h=>absurd h (Nat.not_lt_zero _),Below.refl _ _⟩
   case round=>
    obtain ⟨k,d,hk,rfl,rfl,hd,hn,hB⟩:=hrel
    have HNk:=Lib.hid hn
    have HB2:=Lib.hid hB
    have HD:=Lib.hid hd
    clear hn hB hd
    obtain ⟨W3,eW⟩:∃ W3,W3=wr:=⟨_,rfl⟩
    subst eW
    obtain ⟨k0,k1,k2⟩:=(HV.out.below HB2.out).three
    by_cases hlt:k < S.length
    ·have b2:((k:Int) < (S.length:Int))=True:=eq_true (by omega)
     have d1:(k < S.length)=True:=eq_true hlt
     have c2:((0:Int) ≤ (k:Int))=True:=eq_true (by omega)
     have hsl:=HSl.out
     obtain ⟨gs,os,rfl⟩:=HSr.out.some (by omega)
     obtain ⟨b1,b3,hb1,hb3,hq,hg⟩:=seg_at10 HC.out HSS.out hlt
     have HQ:=Lib.hid hq
     obtain ⟨c0,c1⟩:=ptRow_at (HSr.out.below HB2.out) hlt hq
     dsimp only at c0 c1
     have HOS:=Lib.hid (own_step HSS.out (a:=(an:Int)) (b:=(bn:Int)) (k:=k))
     have HO:Hid (ownK S an bn k=(decide (b1=an∧b3=bn) || decide (b1=bn∧b3=an))):=by
      unfold Hid ownK;rw [hq]
      congr 1 <;> exact decide_eq_decide.2 ⟨fun h=>by injection h with h1 h2;omega,fun ⟨h1,h2⟩=>by rw [h1,h2]⟩
     rw [← HD.out] at HOS
     have HWk:=Lib.hid (wnum (i:=k) (by omega))
     clear hq
     by_cases e1:b1=an
     ·have y11:(b1=an)=True:=eq_true e1
      have y12:((b1:Int)=(an:Int))=True:=eq_true (by omega)
      have y13:((b1:Int) == (an:Int))=true:=beq_iff_eq.mpr (by omega)
      by_cases e2:b3=bn
      ·have y21:(b3=bn)=True:=eq_true e2
       have y22:((b3:Int)=(bn:Int))=True:=eq_true (by omega)
       have y23:((b3:Int) == (bn:Int))=true:=beq_iff_eq.mpr (by omega)
       have HOK:Hid (ownK S an bn k=true):=by unfold Hid;rw [HO.out];simp;omega
       clear HO
       clear e1 e2
       rw [HOK.out,Bool.and_true] at HOS
       cases d with
       | true=>
        rw [Bool.true_or] at HOS
        obtain ⟨m1,m2,m3,m4⟩:=HWk.out
        go_wp2_with fail
        clear m1 m2 m3 m4
        exact ⟨⟨k + 1,true,hlt,by rw [Int.natCast_add];rfl,rfl,HOS.out.symm,fun j hj=>by
         rcases Nat.lt_or_eq_of_le (Nat.le_of_lt_succ hj) with h | rfl
         ·exact HNk.out j h
         ·rw [HOK.out];rfl,HB2.out⟩,by simp [intOf];omega⟩
       | false=>
        rw [Bool.false_or] at HOS
        by_cases hl:k < l.length
        ·have l1:(k < l.length)=True:=eq_true hl
         have l2:((k:Int) < (l.length:Int))=True:=eq_true (by omega)
         rw [decide_eq_true hl] at HOS
         clear hl
         obtain ⟨m1,m2,m3,m4⟩:=HWk.out
         go_wp2_with fail
         clear m1 m2 m3 m4
         exact ⟨⟨k + 1,true,hlt,by rw [Int.natCast_add];rfl,rfl,HOS.out.symm,fun j hj=>by
          rcases Nat.lt_or_eq_of_le (Nat.le_of_lt_succ hj) with h | rfl
          ·exact HNk.out j h
          ·rw [HOK.out];rfl,HB2.out⟩,by simp [intOf];omega⟩
        ·have l1:(k < l.length)=False:=eq_false hl
         have l2:((k:Int) < (l.length:Int))=False:=eq_false (by omega)
         rw [decide_eq_false hl] at HOS
         clear hl
         obtain ⟨m1,m2,m3,m4⟩:=HWk.out
         go_wp2_with fail
         clear m1 m2 m3 m4
         exact ⟨⟨k + 1,false,hlt,by rw [Int.natCast_add];rfl,rfl,HOS.out.symm,fun j hj=>by
          rcases Nat.lt_or_eq_of_le (Nat.le_of_lt_succ hj) with h | rfl
          ·exact HNk.out j h
          ·rw [HOK.out];rfl,HB2.out⟩,by simp [intOf];omega⟩
      ·have y21:(b3=bn)=False:=eq_false e2
       have y22:((b3:Int)=(bn:Int))=False:=eq_false (by omega)
       have y23:((b3:Int) == (bn:Int))=false:=beq_eq_false_iff_ne.mpr (by omega)
       have e3:b1 ≠ bn:=by omega
       have y31:(b1=bn)=False:=eq_false e3
       have y32:((b1:Int)=(bn:Int))=False:=eq_false (by omega)
       have y33:((b1:Int) == (bn:Int))=false:=beq_eq_false_iff_ne.mpr (by omega)
       have HOK:Hid (ownK S an bn k=false):=by unfold Hid;rw [HO.out];simp;omega
       clear HO
       clear e1 e2 e3
       rw [HOK.out,Bool.and_false,Bool.or_false] at HOS
       obtain ⟨⟨cx,cy⟩,hA3⟩:∃ q,pget p b1=q:=⟨_,rfl⟩
       obtain ⟨⟨dx,dy⟩,hA4⟩:∃ q,pget p b3=q:=⟨_,rfl⟩
       have HMF:Hid (badB ⟨⟨ax,ay⟩,⟨bx,b_y⟩⟩ (segF p (pget S k))=decide (1 < segsN ⟨ax,ay⟩ ⟨bx,b_y⟩ ⟨cx,cy⟩ ⟨dx,dy⟩)):=by unfold Hid;rw [hg,hA3,hA4];rfl
       have HP3:=Lib.hid hA3
       have HP4:=Lib.hid hA4
       have HSg:=Lib.hid (fun W=>refSegs_l ⟨ax,ay⟩ ⟨bx,b_y⟩ ⟨cx,cy⟩ ⟨dx,dy⟩ W)
       dsimp only at HSg
       obtain ⟨nn,hnn⟩:∃ n,segsN ⟨ax,ay⟩ ⟨bx,b_y⟩ ⟨cx,cy⟩ ⟨dx,dy⟩=n:=⟨_,rfl⟩
       obtain ⟨ee,hee⟩:∃ n,segsE ⟨ax,ay⟩ ⟨bx,b_y⟩ ⟨cx,cy⟩ ⟨dx,dy⟩=n:=⟨_,rfl⟩
       rw [hnn] at HMF HSg
       rw [hee] at HSg
       clear hnn hee hA3 hA4 hg
       obtain ⟨gp,op,rfl⟩:=HA.out.pp.some (by omega)
       have f3:(b1 < p.length)=True:=eq_true hb1
       have f4:(b3 < p.length)=True:=eq_true hb3
       have g3:((b1:Int) < (p.length:Int))=True:=eq_true (by omega)
       have g4:((b3:Int) < (p.length:Int))=True:=eq_true (by omega)
       have t3:((0:Int) ≤ (b1:Int))=True:=eq_true (by omega)
       have t4:((0:Int) ≤ (b3:Int))=True:=eq_true (by omega)
       go_upto_region 15 with (fail)
       clear k0 k1 k2 c0 c1
       refine wp_region_held_drew (S:=fun V=>Below W3.heap.size W3 V) (by kernel_rfl) ?_ (fun hHeld=>?_)
       ·exact bel_drew W3
       revert hHeld
       generalize World.drew _=W1
       intro hHeld 
       refine tk (i:=0) (v:=?_) rfl (Or.inl ⟨by rfl,?_⟩) ?_
       rotate_left;· rintro _ -;go_simp;all_goals (with_reducible rfl)
       try simp only [Act.put,pk2,pk4,pk5,pk6,pk7]
       refine tk (i:=1) (v:=?_) rfl (Or.inl ⟨by rfl,?_⟩) ?_
       rotate_left
       ·intro Wq hSw
        obtain ⟨k0,k1,k2⟩:=((HV.out.below HB2.out).below hSw).three
        clear hSw
        go_simp;all_goals (with_reducible rfl)
       try simp only [Act.put,pk2,pk3,pk4,pk5,pk6,pk7]
       refine tk (i:=2) (v:=?_) rfl (Or.inl ⟨by rfl,?_⟩) ?_
       rotate_left;· rintro _ -;go_simp;all_goals (with_reducible rfl)
       try simp only [Act.put,pk2,pk3,pk4,pk5,pk6,pk7]
       refine tk (i:=3) (v:=?_) rfl (Or.inl ⟨by rfl,?_⟩) ?_
       rotate_left;· rintro _ -;go_simp;all_goals (with_reducible rfl)
       try simp only [Act.put,pk2,pk3,pk4,pk5,pk6,pk7]
       refine tk (i:=4) (v:=?_) rfl (Or.inl ⟨by rfl,?_⟩) ?_
       rotate_left
       ·intro Wq hSw
        obtain ⟨c3,c4⟩:=ptRow_at (HA.out.pp.below (bl_trans HB.out (bl_trans HB2.out hSw))) ha HP1.out
        dsimp only at c3 c4
        clear hSw
        go_simp;all_goals (with_reducible rfl)
       try simp only [Act.put,pk2,pk3,pk4,pk5,pk6,pk7]
       refine tk (i:=5) (v:=?_) rfl (Or.inl ⟨by rfl,?_⟩) ?_
       rotate_left;· rintro _ -;go_simp;all_goals (with_reducible rfl)
       try simp only [Act.put,pk2,pk3,pk4,pk5,pk6,pk7]
       refine tk (i:=6) (v:=?_) rfl (Or.inl ⟨by rfl,?_⟩) ?_
       rotate_left
       ·intro Wq hSw
        obtain ⟨k0,k1,k2⟩:=((HV.out.below HB2.out).below hSw).three
        clear hSw
        go_simp;all_goals (with_reducible rfl)
       try simp only [Act.put,pk2,pk3,pk4,pk5,pk6,pk7]
       refine tk (i:=7) (v:=?_) rfl (Or.inl ⟨by rfl,?_⟩) ?_
       rotate_left;· rintro _ -;go_simp;all_goals (with_reducible rfl)
       try simp only [Act.put,pk2,pk3,pk4,pk5,pk6,pk7]
       refine tk (i:=8) (v:=?_) rfl (Or.inl ⟨by rfl,?_⟩) ?_
       rotate_left;· rintro _ -;go_simp;all_goals (with_reducible rfl)
       try simp only [Act.put,pk2,pk3,pk4,pk5,pk6,pk7]
       refine tk (i:=9) (v:=?_) rfl (Or.inl ⟨by rfl,?_⟩) ?_
       rotate_left
       ·intro Wq hSw
        obtain ⟨c3,c4⟩:=ptRow_at (HA.out.pp.below (bl_trans HB.out (bl_trans HB2.out hSw))) hb HP2.out
        dsimp only at c3 c4
        clear hSw
        go_simp;all_goals (with_reducible rfl)
       try simp only [Act.put,pk2,pk3,pk4,pk5,pk6,pk7]
       refine tk (i:=10) (v:=?_) rfl (Or.inl ⟨by rfl,?_⟩) ?_
       rotate_left;· rintro _ -;go_simp;all_goals (with_reducible rfl)
       try simp only [Act.put,pk2,pk3,pk4,pk5,pk6,pk7]
       refine tk (i:=11) (v:=?_) rfl (Or.inl ⟨by rfl,?_⟩) ?_
       rotate_left
       ·intro Wq hSw
        obtain ⟨k0,k1,k2⟩:=((HV.out.below HB2.out).below hSw).three
        clear hSw
        go_simp;all_goals (with_reducible rfl)
       try simp only [Act.put,pk2,pk3,pk4,pk5,pk6,pk7]
       refine tk (i:=12) (v:=?_) rfl (Or.inl ⟨by rfl,?_⟩) ?_
       rotate_left;· rintro _ -;go_simp;all_goals (with_reducible rfl)
       try simp only [Act.put,pk2,pk3,pk4,pk5,pk6,pk7]
       refine tk (i:=13) (v:=?_) rfl (Or.inl ⟨by rfl,?_⟩) ?_
       rotate_left;· rintro _ -;go_simp;all_goals (with_reducible rfl)
       try simp only [Act.put,pk2,pk3,pk4,pk5,pk6,pk7]
       refine tk (i:=14) (v:=?_) rfl (Or.inl ⟨by rfl,?_⟩) ?_
       rotate_left;· rintro _ -;go_simp;all_goals (with_reducible rfl)
       try simp only [Act.put,pk2,pk3,pk4,pk5,pk6,pk7]
       refine tk (i:=15) (v:=?_) rfl (Or.inl ⟨by rfl,?_⟩) ?_
       rotate_left;· rintro _ -;go_simp;all_goals (with_reducible rfl)
       try simp only [Act.put,pk2,pk3,pk4,pk5,pk6,pk7]
       refine tk (i:=16) (v:=?_) rfl (Or.inl ⟨by rfl,?_⟩) ?_
       rotate_left
       ·intro Wq hSw
        obtain ⟨c3,c4⟩:=ptRow_at (HSr.out.below (bl_trans HB2.out hSw)) hlt HQ.out
        dsimp only at c3 c4
        clear hSw
        go_simp;all_goals (with_reducible rfl)
       try simp only [Act.put,pk2,pk3,pk4,pk5,pk6,pk7]
       refine tk (i:=17) (v:=?_) rfl (Or.inl ⟨by rfl,?_⟩) ?_
       rotate_left;· rintro _ -;go_simp;all_goals (with_reducible rfl)
       try simp only [Act.put,pk2,pk3,pk4,pk5,pk6,pk7]
       refine tk (i:=18) (v:=?_) rfl (Or.inl ⟨by rfl,?_⟩) ?_
       rotate_left
       ·intro Wq hSw
        obtain ⟨c3,c4⟩:=ptRow_at (HA.out.pp.below (bl_trans HB.out (bl_trans HB2.out hSw))) hb1 HP3.out
        dsimp only at c3 c4
        clear hSw
        go_simp;all_goals (with_reducible rfl)
       try simp only [Act.put,pk2,pk3,pk4,pk5,pk6,pk7]
       refine tk (i:=19) (v:=?_) rfl (Or.inl ⟨by rfl,?_⟩) ?_
       rotate_left;· rintro _ -;go_simp;all_goals (with_reducible rfl)
       try simp only [Act.put,pk2,pk3,pk4,pk5,pk6,pk7]
       refine tk (i:=20) (v:=?_) rfl (Or.inl ⟨by rfl,?_⟩) ?_
       rotate_left
       ·intro Wq hSw
        obtain ⟨k0,k1,k2⟩:=((HV.out.below HB2.out).below hSw).three
        clear hSw
        go_simp;all_goals (with_reducible rfl)
       try simp only [Act.put,pk2,pk3,pk4,pk5,pk6,pk7]
       refine tk (i:=21) (v:=?_) rfl (Or.inl ⟨by rfl,?_⟩) ?_
       rotate_left;· rintro _ -;go_simp;all_goals (with_reducible rfl)
       try simp only [Act.put,pk2,pk3,pk4,pk5,pk6,pk7]
       refine tk (i:=22) (v:=?_) rfl (Or.inl ⟨by rfl,?_⟩) ?_
       rotate_left;· rintro _ -;go_simp;all_goals (with_reducible rfl)
       try simp only [Act.put,pk2,pk3,pk4,pk5,pk6,pk7]
       refine tk (i:=23) (v:=?_) rfl (Or.inl ⟨by rfl,?_⟩) ?_
       rotate_left;· rintro _ -;go_simp;all_goals (with_reducible rfl)
       try simp only [Act.put,pk2,pk3,pk4,pk5,pk6,pk7]
       refine tk (i:=24) (v:=?_) rfl (Or.inl ⟨by rfl,?_⟩) ?_
       rotate_left;· rintro _ -;go_simp;all_goals (with_reducible rfl)
       try simp only [Act.put,pk2,pk3,pk4,pk5,pk6,pk7]
       refine tk (i:=25) (v:=?_) rfl (Or.inl ⟨by rfl,?_⟩) ?_
       rotate_left
       ·intro Wq hSw
        obtain ⟨c3,c4⟩:=ptRow_at (HSr.out.below (bl_trans HB2.out hSw)) hlt HQ.out
        dsimp only at c3 c4
        clear hSw
        go_simp;all_goals (with_reducible rfl)
       try simp only [Act.put,pk2,pk3,pk4,pk5,pk6,pk7]
       refine tk (i:=26) (v:=?_) rfl (Or.inl ⟨by rfl,?_⟩) ?_
       rotate_left;· rintro _ -;go_simp;all_goals (with_reducible rfl)
       try simp only [Act.put,pk2,pk3,pk4,pk5,pk6,pk7]
       refine tk (i:=27) (v:=?_) rfl (Or.inl ⟨by rfl,?_⟩) ?_
       rotate_left
       ·intro Wq hSw
        obtain ⟨c3,c4⟩:=ptRow_at (HA.out.pp.below (bl_trans HB.out (bl_trans HB2.out hSw))) hb3 HP4.out
        dsimp only at c3 c4
        clear hSw
        go_simp;all_goals (with_reducible rfl)
       try simp only [Act.put,pk2,pk3,pk4,pk5,pk6,pk7]
       refine r1 (i:=28) rfl (fun K hK=>?_)
       go_simp
       (with_reducible refine (HSg.out _).mono ?_)
       rintro e w8 ⟨rfl,hb1⟩
       go_wp2_with fail
       refine hK.out _ _ (bl_trans hHeld hb1) (fun hHeld2=>?_)
       clear hK K hHeld
       have hHeld:=hHeld2
       clear hHeld2
       try simp only [Act.put,pk2,pk3,pk4,pk5,pk6,pk7]
       refine tk (i:=29) (v:=?_) rfl (Or.inl ⟨by rfl,?_⟩) ?_
       rotate_left;· rintro _ -;go_simp;all_goals (with_reducible rfl)
       try simp only [Act.put,pk2,pk3,pk4,pk5,pk6,pk7]
       refine tk (i:=30) (v:=?_) rfl (Or.inl ⟨by rfl,?_⟩) ?_
       rotate_left;· rintro _ -;go_simp;all_goals (with_reducible rfl)
       try simp only [Act.put,pk2,pk3,pk4,pk5,pk6,pk7]
       refine tk (i:=31) (v:=?_) rfl (Or.inl ⟨by rfl,?_⟩) ?_
       rotate_left;· rintro _ -;go_simp;all_goals (with_reducible rfl)
       try simp only [Act.put,pk2,pk3,pk4,pk5,pk6,pk7]
       refine tk (i:=32) (v:=?_) rfl (Or.inl ⟨by rfl,?_⟩) ?_
       rotate_left;· rintro _ -;go_simp;all_goals (with_reducible rfl)
       try simp only [Act.put,pk2,pk3,pk4,pk5,pk6,pk7]
       refine tk (i:=33) (v:=?_) rfl (Or.inl ⟨by rfl,?_⟩) ?_
       rotate_left;· rintro _ -;go_simp;all_goals (with_reducible rfl)
       try simp only [Act.put,pk2,pk3,pk4,pk5,pk6,pk7]
       refine wpAnyH_done (by kernel_rfl) ?_ _
       replace HB2:=Lib.hid (bl_trans HB2.out hHeld)
       clear hHeld
       by_cases hz:1 < nn
       ·have z1:(1 < nn)=True:=eq_true hz
        rw [decide_eq_true hz] at HMF
        clear hz
        have HZ:Hid (insideF p l i an bn=false):=by unfold Hid;rw [← HIs.out,anyN_yes hlt (by rw [HOK.out,HMF.out];rfl)];rfl
        replace HB:=Lib.hid (bl_trans HB.out HB2.out)
        go_wp2_with fail
        go_ret
        exact ⟨by rw [HZ.out];rfl,HB.out⟩
       ·have z1:(1 < nn)=False:=eq_false hz
        rw [decide_eq_false hz] at HMF
        clear hz
        obtain ⟨m1,m2,m3,m4⟩:=HWk.out
        go_wp2_with fail
        clear m1 m2 m3 m4
        exact ⟨⟨k + 1,d,hlt,by rw [Int.natCast_add];rfl,rfl,HOS.out.symm,fun j hj=>by
         rcases Nat.lt_or_eq_of_le (Nat.le_of_lt_succ hj) with h | rfl
         ·exact HNk.out j h
         ·rw [HOK.out,HMF.out];rfl,HB2.out⟩,by simp [intOf];omega⟩
     ·have y11:(b1=an)=False:=eq_false e1
      have y12:((b1:Int)=(an:Int))=False:=eq_false (by omega)
      have y13:((b1:Int) == (an:Int))=false:=beq_eq_false_iff_ne.mpr (by omega)
      by_cases e3:b1=bn
      ·have y31:(b1=bn)=True:=eq_true e3
       have y32:((b1:Int)=(bn:Int))=True:=eq_true (by omega)
       have y33:((b1:Int) == (bn:Int))=true:=beq_iff_eq.mpr (by omega)
       by_cases e4:b3=an
       ·have y41:(b3=an)=True:=eq_true e4
        have y42:((b3:Int)=(an:Int))=True:=eq_true (by omega)
        have y43:((b3:Int) == (an:Int))=true:=beq_iff_eq.mpr (by omega)
        have HOK:Hid (ownK S an bn k=true):=by unfold Hid;rw [HO.out];simp;omega
        clear HO
        clear e1 e3 e4
        rw [HOK.out,Bool.and_true] at HOS
        cases d with
        | true=>
         rw [Bool.true_or] at HOS
         obtain ⟨m1,m2,m3,m4⟩:=HWk.out
         go_wp2_with fail
         clear m1 m2 m3 m4
         exact ⟨⟨k + 1,true,hlt,by rw [Int.natCast_add];rfl,rfl,HOS.out.symm,fun j hj=>by
          rcases Nat.lt_or_eq_of_le (Nat.le_of_lt_succ hj) with h | rfl
          ·exact HNk.out j h
          ·rw [HOK.out];rfl,HB2.out⟩,by simp [intOf];omega⟩
        | false=>
         rw [Bool.false_or] at HOS
         by_cases hl:k < l.length
         ·have l1:(k < l.length)=True:=eq_true hl
          have l2:((k:Int) < (l.length:Int))=True:=eq_true (by omega)
          rw [decide_eq_true hl] at HOS
          clear hl
          obtain ⟨m1,m2,m3,m4⟩:=HWk.out
          go_wp2_with fail
          clear m1 m2 m3 m4
          exact ⟨⟨k + 1,true,hlt,by rw [Int.natCast_add];rfl,rfl,HOS.out.symm,fun j hj=>by
           rcases Nat.lt_or_eq_of_le (Nat.le_of_lt_succ hj) with h | rfl
           ·exact HNk.out j h
           ·rw [HOK.out];rfl,HB2.out⟩,by simp [intOf];omega⟩
         ·have l1:(k < l.length)=False:=eq_false hl
          have l2:((k:Int) < (l.length:Int))=False:=eq_false (by omega)
          rw [decide_eq_false hl] at HOS
          clear hl
          obtain ⟨m1,m2,m3,m4⟩:=HWk.out
          go_wp2_with fail
          clear m1 m2 m3 m4
          exact ⟨⟨k + 1,false,hlt,by rw [Int.natCast_add];rfl,rfl,HOS.out.symm,fun j hj=>by
           rcases Nat.lt_or_eq_of_le (Nat.le_of_lt_succ hj) with h | rfl
           ·exact HNk.out j h
           ·rw [HOK.out];rfl,HB2.out⟩,by simp [intOf];omega⟩
       ·have y41:(b3=an)=False:=eq_false e4
        have y42:((b3:Int)=(an:Int))=False:=eq_false (by omega)
        have y43:((b3:Int) == (an:Int))=false:=beq_eq_false_iff_ne.mpr (by omega)
        have HOK:Hid (ownK S an bn k=false):=by unfold Hid;rw [HO.out];simp;omega
        clear HO
        clear e1 e3 e4
        rw [HOK.out,Bool.and_false,Bool.or_false] at HOS
        obtain ⟨⟨cx,cy⟩,hA3⟩:∃ q,pget p b1=q:=⟨_,rfl⟩
        obtain ⟨⟨dx,dy⟩,hA4⟩:∃ q,pget p b3=q:=⟨_,rfl⟩
        have HMF:Hid (badB ⟨⟨ax,ay⟩,⟨bx,b_y⟩⟩ (segF p (pget S k))=decide (1 < segsN ⟨ax,ay⟩ ⟨bx,b_y⟩ ⟨cx,cy⟩ ⟨dx,dy⟩)):=by unfold Hid;rw [hg,hA3,hA4];rfl
        have HP3:=Lib.hid hA3
        have HP4:=Lib.hid hA4
        have HSg:=Lib.hid (fun W=>refSegs_l ⟨ax,ay⟩ ⟨bx,b_y⟩ ⟨cx,cy⟩ ⟨dx,dy⟩ W)
        dsimp only at HSg
        obtain ⟨nn,hnn⟩:∃ n,segsN ⟨ax,ay⟩ ⟨bx,b_y⟩ ⟨cx,cy⟩ ⟨dx,dy⟩=n:=⟨_,rfl⟩
        obtain ⟨ee,hee⟩:∃ n,segsE ⟨ax,ay⟩ ⟨bx,b_y⟩ ⟨cx,cy⟩ ⟨dx,dy⟩=n:=⟨_,rfl⟩
        rw [hnn] at HMF HSg
        rw [hee] at HSg
        clear hnn hee hA3 hA4 hg
        obtain ⟨gp,op,rfl⟩:=HA.out.pp.some (by omega)
        have f3:(b1 < p.length)=True:=eq_true hb1
        have f4:(b3 < p.length)=True:=eq_true hb3
        have g3:((b1:Int) < (p.length:Int))=True:=eq_true (by omega)
        have g4:((b3:Int) < (p.length:Int))=True:=eq_true (by omega)
        have t3:((0:Int) ≤ (b1:Int))=True:=eq_true (by omega)
        have t4:((0:Int) ≤ (b3:Int))=True:=eq_true (by omega)
        go_upto_region 15 with (fail)
        clear k0 k1 k2 c0 c1
        refine wp_region_held_drew (S:=fun V=>Below W3.heap.size W3 V) (by kernel_rfl) ?_ (fun hHeld=>?_)
        ·exact bel_drew W3
        revert hHeld
        generalize World.drew _=W1
        intro hHeld 
        refine tk (i:=0) (v:=?_) rfl (Or.inl ⟨by rfl,?_⟩) ?_
        rotate_left;· rintro _ -;go_simp;all_goals (with_reducible rfl)
        try simp only [Act.put,pk2,pk4,pk5,pk6,pk7]
        refine tk (i:=1) (v:=?_) rfl (Or.inl ⟨by rfl,?_⟩) ?_
        rotate_left
        ·intro Wq hSw
         obtain ⟨k0,k1,k2⟩:=((HV.out.below HB2.out).below hSw).three
         clear hSw
         go_simp;all_goals (with_reducible rfl)
        try simp only [Act.put,pk2,pk3,pk4,pk5,pk6,pk7]
        refine tk (i:=2) (v:=?_) rfl (Or.inl ⟨by rfl,?_⟩) ?_
        rotate_left;· rintro _ -;go_simp;all_goals (with_reducible rfl)
        try simp only [Act.put,pk2,pk3,pk4,pk5,pk6,pk7]
        refine tk (i:=3) (v:=?_) rfl (Or.inl ⟨by rfl,?_⟩) ?_
        rotate_left;· rintro _ -;go_simp;all_goals (with_reducible rfl)
        try simp only [Act.put,pk2,pk3,pk4,pk5,pk6,pk7]
        refine tk (i:=4) (v:=?_) rfl (Or.inl ⟨by rfl,?_⟩) ?_
        rotate_left
        ·intro Wq hSw
         obtain ⟨c3,c4⟩:=ptRow_at (HA.out.pp.below (bl_trans HB.out (bl_trans HB2.out hSw))) ha HP1.out
         dsimp only at c3 c4
         clear hSw
         go_simp;all_goals (with_reducible rfl)
        try simp only [Act.put,pk2,pk3,pk4,pk5,pk6,pk7]
        refine tk (i:=5) (v:=?_) rfl (Or.inl ⟨by rfl,?_⟩) ?_
        rotate_left;· rintro _ -;go_simp;all_goals (with_reducible rfl)
        try simp only [Act.put,pk2,pk3,pk4,pk5,pk6,pk7]
        refine tk (i:=6) (v:=?_) rfl (Or.inl ⟨by rfl,?_⟩) ?_
        rotate_left
        ·intro Wq hSw
         obtain ⟨k0,k1,k2⟩:=((HV.out.below HB2.out).below hSw).three
         clear hSw
         go_simp;all_goals (with_reducible rfl)
        try simp only [Act.put,pk2,pk3,pk4,pk5,pk6,pk7]
        refine tk (i:=7) (v:=?_) rfl (Or.inl ⟨by rfl,?_⟩) ?_
        rotate_left;· rintro _ -;go_simp;all_goals (with_reducible rfl)
        try simp only [Act.put,pk2,pk3,pk4,pk5,pk6,pk7]
        refine tk (i:=8) (v:=?_) rfl (Or.inl ⟨by rfl,?_⟩) ?_
        rotate_left;· rintro _ -;go_simp;all_goals (with_reducible rfl)
        try simp only [Act.put,pk2,pk3,pk4,pk5,pk6,pk7]
        refine tk (i:=9) (v:=?_) rfl (Or.inl ⟨by rfl,?_⟩) ?_
        rotate_left
        ·intro Wq hSw
         obtain ⟨c3,c4⟩:=ptRow_at (HA.out.pp.below (bl_trans HB.out (bl_trans HB2.out hSw))) hb HP2.out
         dsimp only at c3 c4
         clear hSw
         go_simp;all_goals (with_reducible rfl)
        try simp only [Act.put,pk2,pk3,pk4,pk5,pk6,pk7]
        refine tk (i:=10) (v:=?_) rfl (Or.inl ⟨by rfl,?_⟩) ?_
        rotate_left;· rintro _ -;go_simp;all_goals (with_reducible rfl)
        try simp only [Act.put,pk2,pk3,pk4,pk5,pk6,pk7]
        refine tk (i:=11) (v:=?_) rfl (Or.inl ⟨by rfl,?_⟩) ?_
        rotate_left
        ·intro Wq hSw
         obtain ⟨k0,k1,k2⟩:=((HV.out.below HB2.out).below hSw).three
         clear hSw
         go_simp;all_goals (with_reducible rfl)
        try simp only [Act.put,pk2,pk3,pk4,pk5,pk6,pk7]
        refine tk (i:=12) (v:=?_) rfl (Or.inl ⟨by rfl,?_⟩) ?_
        rotate_left;· rintro _ -;go_simp;all_goals (with_reducible rfl)
        try simp only [Act.put,pk2,pk3,pk4,pk5,pk6,pk7]
        refine tk (i:=13) (v:=?_) rfl (Or.inl ⟨by rfl,?_⟩) ?_
        rotate_left;· rintro _ -;go_simp;all_goals (with_reducible rfl)
        try simp only [Act.put,pk2,pk3,pk4,pk5,pk6,pk7]
        refine tk (i:=14) (v:=?_) rfl (Or.inl ⟨by rfl,?_⟩) ?_
        rotate_left;· rintro _ -;go_simp;all_goals (with_reducible rfl)
        try simp only [Act.put,pk2,pk3,pk4,pk5,pk6,pk7]
        refine tk (i:=15) (v:=?_) rfl (Or.inl ⟨by rfl,?_⟩) ?_
        rotate_left;· rintro _ -;go_simp;all_goals (with_reducible rfl)
        try simp only [Act.put,pk2,pk3,pk4,pk5,pk6,pk7]
        refine tk (i:=16) (v:=?_) rfl (Or.inl ⟨by rfl,?_⟩) ?_
        rotate_left
        ·intro Wq hSw
         obtain ⟨c3,c4⟩:=ptRow_at (HSr.out.below (bl_trans HB2.out hSw)) hlt HQ.out
         dsimp only at c3 c4
         clear hSw
         go_simp;all_goals (with_reducible rfl)
        try simp only [Act.put,pk2,pk3,pk4,pk5,pk6,pk7]
        refine tk (i:=17) (v:=?_) rfl (Or.inl ⟨by rfl,?_⟩) ?_
        rotate_left;· rintro _ -;go_simp;all_goals (with_reducible rfl)
        try simp only [Act.put,pk2,pk3,pk4,pk5,pk6,pk7]
        refine tk (i:=18) (v:=?_) rfl (Or.inl ⟨by rfl,?_⟩) ?_
        rotate_left
        ·intro Wq hSw
         obtain ⟨c3,c4⟩:=ptRow_at (HA.out.pp.below (bl_trans HB.out (bl_trans HB2.out hSw))) hb1 HP3.out
         dsimp only at c3 c4
         clear hSw
         go_simp;all_goals (with_reducible rfl)
        try simp only [Act.put,pk2,pk3,pk4,pk5,pk6,pk7]
        refine tk (i:=19) (v:=?_) rfl (Or.inl ⟨by rfl,?_⟩) ?_
        rotate_left;· rintro _ -;go_simp;all_goals (with_reducible rfl)
        try simp only [Act.put,pk2,pk3,pk4,pk5,pk6,pk7]
        refine tk (i:=20) (v:=?_) rfl (Or.inl ⟨by rfl,?_⟩) ?_
        rotate_left
        ·intro Wq hSw
         obtain ⟨k0,k1,k2⟩:=((HV.out.below HB2.out).below hSw).three
         clear hSw
         go_simp;all_goals (with_reducible rfl)
        try simp only [Act.put,pk2,pk3,pk4,pk5,pk6,pk7]
        refine tk (i:=21) (v:=?_) rfl (Or.inl ⟨by rfl,?_⟩) ?_
        rotate_left;· rintro _ -;go_simp;all_goals (with_reducible rfl)
        try simp only [Act.put,pk2,pk3,pk4,pk5,pk6,pk7]
        refine tk (i:=22) (v:=?_) rfl (Or.inl ⟨by rfl,?_⟩) ?_
        rotate_left;· rintro _ -;go_simp;all_goals (with_reducible rfl)
        try simp only [Act.put,pk2,pk3,pk4,pk5,pk6,pk7]
        refine tk (i:=23) (v:=?_) rfl (Or.inl ⟨by rfl,?_⟩) ?_
        rotate_left;· rintro _ -;go_simp;all_goals (with_reducible rfl)
        try simp only [Act.put,pk2,pk3,pk4,pk5,pk6,pk7]
        refine tk (i:=24) (v:=?_) rfl (Or.inl ⟨by rfl,?_⟩) ?_
        rotate_left;· rintro _ -;go_simp;all_goals (with_reducible rfl)
        try simp only [Act.put,pk2,pk3,pk4,pk5,pk6,pk7]
        refine tk (i:=25) (v:=?_) rfl (Or.inl ⟨by rfl,?_⟩) ?_
        rotate_left
        ·intro Wq hSw
         obtain ⟨c3,c4⟩:=ptRow_at (HSr.out.below (bl_trans HB2.out hSw)) hlt HQ.out
         dsimp only at c3 c4
         clear hSw
         go_simp;all_goals (with_reducible rfl)
        try simp only [Act.put,pk2,pk3,pk4,pk5,pk6,pk7]
        refine tk (i:=26) (v:=?_) rfl (Or.inl ⟨by rfl,?_⟩) ?_
        rotate_left;· rintro _ -;go_simp;all_goals (with_reducible rfl)
        try simp only [Act.put,pk2,pk3,pk4,pk5,pk6,pk7]
        refine tk (i:=27) (v:=?_) rfl (Or.inl ⟨by rfl,?_⟩) ?_
        rotate_left
        ·intro Wq hSw
         obtain ⟨c3,c4⟩:=ptRow_at (HA.out.pp.below (bl_trans HB.out (bl_trans HB2.out hSw))) hb3 HP4.out
         dsimp only at c3 c4
         clear hSw
         go_simp;all_goals (with_reducible rfl)
        try simp only [Act.put,pk2,pk3,pk4,pk5,pk6,pk7]
        refine r1 (i:=28) rfl (fun K hK=>?_)
        go_simp
        (with_reducible refine (HSg.out _).mono ?_)
        rintro e w8 ⟨rfl,hb1⟩
        go_wp2_with fail
        refine hK.out _ _ (bl_trans hHeld hb1) (fun hHeld2=>?_)
        clear hK K hHeld
        have hHeld:=hHeld2
        clear hHeld2
        try simp only [Act.put,pk2,pk3,pk4,pk5,pk6,pk7]
        refine tk (i:=29) (v:=?_) rfl (Or.inl ⟨by rfl,?_⟩) ?_
        rotate_left;· rintro _ -;go_simp;all_goals (with_reducible rfl)
        try simp only [Act.put,pk2,pk3,pk4,pk5,pk6,pk7]
        refine tk (i:=30) (v:=?_) rfl (Or.inl ⟨by rfl,?_⟩) ?_
        rotate_left;· rintro _ -;go_simp;all_goals (with_reducible rfl)
        try simp only [Act.put,pk2,pk3,pk4,pk5,pk6,pk7]
        refine tk (i:=31) (v:=?_) rfl (Or.inl ⟨by rfl,?_⟩) ?_
        rotate_left;· rintro _ -;go_simp;all_goals (with_reducible rfl)
        try simp only [Act.put,pk2,pk3,pk4,pk5,pk6,pk7]
        refine tk (i:=32) (v:=?_) rfl (Or.inl ⟨by rfl,?_⟩) ?_
        rotate_left;· rintro _ -;go_simp;all_goals (with_reducible rfl)
        try simp only [Act.put,pk2,pk3,pk4,pk5,pk6,pk7]
        refine tk (i:=33) (v:=?_) rfl (Or.inl ⟨by rfl,?_⟩) ?_
        rotate_left;· rintro _ -;go_simp;all_goals (with_reducible rfl)
        try simp only [Act.put,pk2,pk3,pk4,pk5,pk6,pk7]
        refine wpAnyH_done (by kernel_rfl) ?_ _
        replace HB2:=Lib.hid (bl_trans HB2.out hHeld)
        clear hHeld
        by_cases hz:1 < nn
        ·have z1:(1 < nn)=True:=eq_true hz
         rw [decide_eq_true hz] at HMF
         clear hz
         have HZ:Hid (insideF p l i an bn=false):=by unfold Hid;rw [← HIs.out,anyN_yes hlt (by rw [HOK.out,HMF.out];rfl)];rfl
         replace HB:=Lib.hid (bl_trans HB.out HB2.out)
         go_wp2_with fail
         go_ret
         exact ⟨by rw [HZ.out];rfl,HB.out⟩
        ·have z1:(1 < nn)=False:=eq_false hz
         rw [decide_eq_false hz] at HMF
         clear hz
         obtain ⟨m1,m2,m3,m4⟩:=HWk.out
         go_wp2_with fail
         clear m1 m2 m3 m4
         exact ⟨⟨k + 1,d,hlt,by rw [Int.natCast_add];rfl,rfl,HOS.out.symm,fun j hj=>by
          rcases Nat.lt_or_eq_of_le (Nat.le_of_lt_succ hj) with h | rfl
          ·exact HNk.out j h
          ·rw [HOK.out,HMF.out];rfl,HB2.out⟩,by simp [intOf];omega⟩
      ·have y31:(b1=bn)=False:=eq_false e3
       have y32:((b1:Int)=(bn:Int))=False:=eq_false (by omega)
       have y33:((b1:Int) == (bn:Int))=false:=beq_eq_false_iff_ne.mpr (by omega)
       have HOK:Hid (ownK S an bn k=false):=by unfold Hid;rw [HO.out];simp;omega
       clear HO
       clear e1 e3
       rw [HOK.out,Bool.and_false,Bool.or_false] at HOS
       obtain ⟨⟨cx,cy⟩,hA3⟩:∃ q,pget p b1=q:=⟨_,rfl⟩
       obtain ⟨⟨dx,dy⟩,hA4⟩:∃ q,pget p b3=q:=⟨_,rfl⟩
       have HMF:Hid (badB ⟨⟨ax,ay⟩,⟨bx,b_y⟩⟩ (segF p (pget S k))=decide (1 < segsN ⟨ax,ay⟩ ⟨bx,b_y⟩ ⟨cx,cy⟩ ⟨dx,dy⟩)):=by unfold Hid;rw [hg,hA3,hA4];rfl
       have HP3:=Lib.hid hA3
       have HP4:=Lib.hid hA4
       have HSg:=Lib.hid (fun W=>refSegs_l ⟨ax,ay⟩ ⟨bx,b_y⟩ ⟨cx,cy⟩ ⟨dx,dy⟩ W)
       dsimp only at HSg
       obtain ⟨nn,hnn⟩:∃ n,segsN ⟨ax,ay⟩ ⟨bx,b_y⟩ ⟨cx,cy⟩ ⟨dx,dy⟩=n:=⟨_,rfl⟩
       obtain ⟨ee,hee⟩:∃ n,segsE ⟨ax,ay⟩ ⟨bx,b_y⟩ ⟨cx,cy⟩ ⟨dx,dy⟩=n:=⟨_,rfl⟩
       rw [hnn] at HMF HSg
       rw [hee] at HSg
       clear hnn hee hA3 hA4 hg
       obtain ⟨gp,op,rfl⟩:=HA.out.pp.some (by omega)
       have f3:(b1 < p.length)=True:=eq_true hb1
       have f4:(b3 < p.length)=True:=eq_true hb3
       have g3:((b1:Int) < (p.length:Int))=True:=eq_true (by omega)
       have g4:((b3:Int) < (p.length:Int))=True:=eq_true (by omega)
       have t3:((0:Int) ≤ (b1:Int))=True:=eq_true (by omega)
       have t4:((0:Int) ≤ (b3:Int))=True:=eq_true (by omega)
       go_upto_region 15 with (fail)
       clear k0 k1 k2 c0 c1
       refine wp_region_held_drew (S:=fun V=>Below W3.heap.size W3 V) (by kernel_rfl) ?_ (fun hHeld=>?_)
       ·exact bel_drew W3
       revert hHeld
       generalize World.drew _=W1
       intro hHeld 
       refine tk (i:=0) (v:=?_) rfl (Or.inl ⟨by rfl,?_⟩) ?_
       rotate_left;· rintro _ -;go_simp;all_goals (with_reducible rfl)
       try simp only [Act.put,pk2,pk4,pk5,pk6,pk7]
       refine tk (i:=1) (v:=?_) rfl (Or.inl ⟨by rfl,?_⟩) ?_
       rotate_left
       ·intro Wq hSw
        obtain ⟨k0,k1,k2⟩:=((HV.out.below HB2.out).below hSw).three
        clear hSw
        go_simp;all_goals (with_reducible rfl)
       try simp only [Act.put,pk2,pk3,pk4,pk5,pk6,pk7]
       refine tk (i:=2) (v:=?_) rfl (Or.inl ⟨by rfl,?_⟩) ?_
       rotate_left;· rintro _ -;go_simp;all_goals (with_reducible rfl)
       try simp only [Act.put,pk2,pk3,pk4,pk5,pk6,pk7]
       refine tk (i:=3) (v:=?_) rfl (Or.inl ⟨by rfl,?_⟩) ?_
       rotate_left;· rintro _ -;go_simp;all_goals (with_reducible rfl)
       try simp only [Act.put,pk2,pk3,pk4,pk5,pk6,pk7]
       refine tk (i:=4) (v:=?_) rfl (Or.inl ⟨by rfl,?_⟩) ?_
       rotate_left
       ·intro Wq hSw
        obtain ⟨c3,c4⟩:=ptRow_at (HA.out.pp.below (bl_trans HB.out (bl_trans HB2.out hSw))) ha HP1.out
        dsimp only at c3 c4
        clear hSw
        go_simp;all_goals (with_reducible rfl)
       try simp only [Act.put,pk2,pk3,pk4,pk5,pk6,pk7]
       refine tk (i:=5) (v:=?_) rfl (Or.inl ⟨by rfl,?_⟩) ?_
       rotate_left;· rintro _ -;go_simp;all_goals (with_reducible rfl)
       try simp only [Act.put,pk2,pk3,pk4,pk5,pk6,pk7]
       refine tk (i:=6) (v:=?_) rfl (Or.inl ⟨by rfl,?_⟩) ?_
       rotate_left
       ·intro Wq hSw
        obtain ⟨k0,k1,k2⟩:=((HV.out.below HB2.out).below hSw).three
        clear hSw
        go_simp;all_goals (with_reducible rfl)
       try simp only [Act.put,pk2,pk3,pk4,pk5,pk6,pk7]
       refine tk (i:=7) (v:=?_) rfl (Or.inl ⟨by rfl,?_⟩) ?_
       rotate_left;· rintro _ -;go_simp;all_goals (with_reducible rfl)
       try simp only [Act.put,pk2,pk3,pk4,pk5,pk6,pk7]
       refine tk (i:=8) (v:=?_) rfl (Or.inl ⟨by rfl,?_⟩) ?_
       rotate_left;· rintro _ -;go_simp;all_goals (with_reducible rfl)
       try simp only [Act.put,pk2,pk3,pk4,pk5,pk6,pk7]
       refine tk (i:=9) (v:=?_) rfl (Or.inl ⟨by rfl,?_⟩) ?_
       rotate_left
       ·intro Wq hSw
        obtain ⟨c3,c4⟩:=ptRow_at (HA.out.pp.below (bl_trans HB.out (bl_trans HB2.out hSw))) hb HP2.out
        dsimp only at c3 c4
        clear hSw
        go_simp;all_goals (with_reducible rfl)
       try simp only [Act.put,pk2,pk3,pk4,pk5,pk6,pk7]
       refine tk (i:=10) (v:=?_) rfl (Or.inl ⟨by rfl,?_⟩) ?_
       rotate_left;· rintro _ -;go_simp;all_goals (with_reducible rfl)
       try simp only [Act.put,pk2,pk3,pk4,pk5,pk6,pk7]
       refine tk (i:=11) (v:=?_) rfl (Or.inl ⟨by rfl,?_⟩) ?_
       rotate_left
       ·intro Wq hSw
        obtain ⟨k0,k1,k2⟩:=((HV.out.below HB2.out).below hSw).three
        clear hSw
        go_simp;all_goals (with_reducible rfl)
       try simp only [Act.put,pk2,pk3,pk4,pk5,pk6,pk7]
       refine tk (i:=12) (v:=?_) rfl (Or.inl ⟨by rfl,?_⟩) ?_
       rotate_left;· rintro _ -;go_simp;all_goals (with_reducible rfl)
       try simp only [Act.put,pk2,pk3,pk4,pk5,pk6,pk7]
       refine tk (i:=13) (v:=?_) rfl (Or.inl ⟨by rfl,?_⟩) ?_
       rotate_left;· rintro _ -;go_simp;all_goals (with_reducible rfl)
       try simp only [Act.put,pk2,pk3,pk4,pk5,pk6,pk7]
       refine tk (i:=14) (v:=?_) rfl (Or.inl ⟨by rfl,?_⟩) ?_
       rotate_left;· rintro _ -;go_simp;all_goals (with_reducible rfl)
       try simp only [Act.put,pk2,pk3,pk4,pk5,pk6,pk7]
       refine tk (i:=15) (v:=?_) rfl (Or.inl ⟨by rfl,?_⟩) ?_
       rotate_left;· rintro _ -;go_simp;all_goals (with_reducible rfl)
       try simp only [Act.put,pk2,pk3,pk4,pk5,pk6,pk7]
       refine tk (i:=16) (v:=?_) rfl (Or.inl ⟨by rfl,?_⟩) ?_
       rotate_left
       ·intro Wq hSw
        obtain ⟨c3,c4⟩:=ptRow_at (HSr.out.below (bl_trans HB2.out hSw)) hlt HQ.out
        dsimp only at c3 c4
        clear hSw
        go_simp;all_goals (with_reducible rfl)
       try simp only [Act.put,pk2,pk3,pk4,pk5,pk6,pk7]
       refine tk (i:=17) (v:=?_) rfl (Or.inl ⟨by rfl,?_⟩) ?_
       rotate_left;· rintro _ -;go_simp;all_goals (with_reducible rfl)
       try simp only [Act.put,pk2,pk3,pk4,pk5,pk6,pk7]
       refine tk (i:=18) (v:=?_) rfl (Or.inl ⟨by rfl,?_⟩) ?_
       rotate_left
       ·intro Wq hSw
        obtain ⟨c3,c4⟩:=ptRow_at (HA.out.pp.below (bl_trans HB.out (bl_trans HB2.out hSw))) hb1 HP3.out
        dsimp only at c3 c4
        clear hSw
        go_simp;all_goals (with_reducible rfl)
       try simp only [Act.put,pk2,pk3,pk4,pk5,pk6,pk7]
       refine tk (i:=19) (v:=?_) rfl (Or.inl ⟨by rfl,?_⟩) ?_
       rotate_left;· rintro _ -;go_simp;all_goals (with_reducible rfl)
       try simp only [Act.put,pk2,pk3,pk4,pk5,pk6,pk7]
       refine tk (i:=20) (v:=?_) rfl (Or.inl ⟨by rfl,?_⟩) ?_
       rotate_left
       ·intro Wq hSw
        obtain ⟨k0,k1,k2⟩:=((HV.out.below HB2.out).below hSw).three
        clear hSw
        go_simp;all_goals (with_reducible rfl)
       try simp only [Act.put,pk2,pk3,pk4,pk5,pk6,pk7]
       refine tk (i:=21) (v:=?_) rfl (Or.inl ⟨by rfl,?_⟩) ?_
       rotate_left;· rintro _ -;go_simp;all_goals (with_reducible rfl)
       try simp only [Act.put,pk2,pk3,pk4,pk5,pk6,pk7]
       refine tk (i:=22) (v:=?_) rfl (Or.inl ⟨by rfl,?_⟩) ?_
       rotate_left;· rintro _ -;go_simp;all_goals (with_reducible rfl)
       try simp only [Act.put,pk2,pk3,pk4,pk5,pk6,pk7]
       refine tk (i:=23) (v:=?_) rfl (Or.inl ⟨by rfl,?_⟩) ?_
       rotate_left;· rintro _ -;go_simp;all_goals (with_reducible rfl)
       try simp only [Act.put,pk2,pk3,pk4,pk5,pk6,pk7]
       refine tk (i:=24) (v:=?_) rfl (Or.inl ⟨by rfl,?_⟩) ?_
       rotate_left;· rintro _ -;go_simp;all_goals (with_reducible rfl)
       try simp only [Act.put,pk2,pk3,pk4,pk5,pk6,pk7]
       refine tk (i:=25) (v:=?_) rfl (Or.inl ⟨by rfl,?_⟩) ?_
       rotate_left
       ·intro Wq hSw
        obtain ⟨c3,c4⟩:=ptRow_at (HSr.out.below (bl_trans HB2.out hSw)) hlt HQ.out
        dsimp only at c3 c4
        clear hSw
        go_simp;all_goals (with_reducible rfl)
       try simp only [Act.put,pk2,pk3,pk4,pk5,pk6,pk7]
       refine tk (i:=26) (v:=?_) rfl (Or.inl ⟨by rfl,?_⟩) ?_
       rotate_left;· rintro _ -;go_simp;all_goals (with_reducible rfl)
       try simp only [Act.put,pk2,pk3,pk4,pk5,pk6,pk7]
       refine tk (i:=27) (v:=?_) rfl (Or.inl ⟨by rfl,?_⟩) ?_
       rotate_left
       ·intro Wq hSw
        obtain ⟨c3,c4⟩:=ptRow_at (HA.out.pp.below (bl_trans HB.out (bl_trans HB2.out hSw))) hb3 HP4.out
        dsimp only at c3 c4
        clear hSw
        go_simp;all_goals (with_reducible rfl)
       try simp only [Act.put,pk2,pk3,pk4,pk5,pk6,pk7]
       refine r1 (i:=28) rfl (fun K hK=>?_)
       go_simp
       (with_reducible refine (HSg.out _).mono ?_)
       rintro e w8 ⟨rfl,hb1⟩
       go_wp2_with fail
       refine hK.out _ _ (bl_trans hHeld hb1) (fun hHeld2=>?_)
       clear hK K hHeld
       have hHeld:=hHeld2
       clear hHeld2
       try simp only [Act.put,pk2,pk3,pk4,pk5,pk6,pk7]
       refine tk (i:=29) (v:=?_) rfl (Or.inl ⟨by rfl,?_⟩) ?_
       rotate_left;· rintro _ -;go_simp;all_goals (with_reducible rfl)
       try simp only [Act.put,pk2,pk3,pk4,pk5,pk6,pk7]
       refine tk (i:=30) (v:=?_) rfl (Or.inl ⟨by rfl,?_⟩) ?_
       rotate_left;· rintro _ -;go_simp;all_goals (with_reducible rfl)
       try simp only [Act.put,pk2,pk3,pk4,pk5,pk6,pk7]
       refine tk (i:=31) (v:=?_) rfl (Or.inl ⟨by rfl,?_⟩) ?_
       rotate_left;· rintro _ -;go_simp;all_goals (with_reducible rfl)
       try simp only [Act.put,pk2,pk3,pk4,pk5,pk6,pk7]
       refine tk (i:=32) (v:=?_) rfl (Or.inl ⟨by rfl,?_⟩) ?_
       rotate_left;· rintro _ -;go_simp;all_goals (with_reducible rfl)
       try simp only [Act.put,pk2,pk3,pk4,pk5,pk6,pk7]
       refine tk (i:=33) (v:=?_) rfl (Or.inl ⟨by rfl,?_⟩) ?_
       rotate_left;· rintro _ -;go_simp;all_goals (with_reducible rfl)
       try simp only [Act.put,pk2,pk3,pk4,pk5,pk6,pk7]
       refine wpAnyH_done (by kernel_rfl) ?_ _
       replace HB2:=Lib.hid (bl_trans HB2.out hHeld)
       clear hHeld
       by_cases hz:1 < nn
       ·have z1:(1 < nn)=True:=eq_true hz
        rw [decide_eq_true hz] at HMF
        clear hz
        have HZ:Hid (insideF p l i an bn=false):=by unfold Hid;rw [← HIs.out,anyN_yes hlt (by rw [HOK.out,HMF.out];rfl)];rfl
        replace HB:=Lib.hid (bl_trans HB.out HB2.out)
        go_wp2_with fail
        go_ret
        exact ⟨by rw [HZ.out];rfl,HB.out⟩
       ·have z1:(1 < nn)=False:=eq_false hz
        rw [decide_eq_false hz] at HMF
        clear hz
        obtain ⟨m1,m2,m3,m4⟩:=HWk.out
        go_wp2_with fail
        clear m1 m2 m3 m4
        exact ⟨⟨k + 1,d,hlt,by rw [Int.natCast_add];rfl,rfl,HOS.out.symm,fun j hj=>by
         rcases Nat.lt_or_eq_of_le (Nat.le_of_lt_succ hj) with h | rfl
         ·exact HNk.out j h
         ·rw [HOK.out,HMF.out];rfl,HB2.out⟩,by simp [intOf];omega⟩
    ·obtain rfl:k=S.length:=by omega
     have b2:((S.length:Int) < (S.length:Int))=False:=eq_false (by omega)
     have H2:Hid (anyN (fun j=>!(ownK S an bn j) && badB ⟨⟨ax,ay⟩,⟨bx,b_y⟩⟩ (segF p (pget S j))) S.length=false):=anyN_no.2 HNk.out
     rw [H2.out,Bool.not_false,Bool.true_and] at HIs
     have hml:min S.length l.length=l.length:=Nat.min_eq_right (by rw [← HSS.out,List.length_append];omega)
     have hd':=HD.out
     rw [hml] at hd'
     rw [← hd'] at HIs
     have HMW:Hid (midW p l ⟨(an:Int),(bn:Int)⟩=decide (midN p l [(an:Int),(bn:Int)]=1)):=rfl
     obtain ⟨nn,hnn⟩:∃ n,midN p l [(an:Int),(bn:Int)]=n:=⟨_,rfl⟩
     obtain ⟨ee,hee⟩:∃ n,midE p l [(an:Int),(bn:Int)]=n:=⟨_,rfl⟩
     have HMd:Hid (∀ (W:World) (g:Nat),PtRow W ap p → PtRow W al l → IntRow W (some ⟨g,0,none⟩) [(an:Int),(bn:Int)] → Calls Tryz.prog 42 #[.slice ap p.length cp,.slice al l.length cl,.slice (some ⟨g,0,none⟩) 2 2] W (Gives (.tuple #[.int .i64 nn,.int .i64 ee]) W)):=fun W g hP hL hI=>by
      have h:=refMid9_l p l [(an:Int),(bn:Int)] ap al g 0 cp cl 2 W hP hL hI HA.out.lenL (by simp)
      rw [hnn,hee] at h;exact h
     rw [hnn] at HMW
     rw [HMW.out] at HIs
     have HBw:=Lib.hid (bl_trans HB.out HB2.out)
     clear hnn hee hml hd' HD HNk H2 HSr hk hlt HMW
     go_wp2_with fail
     (with_reducible refine (HMd.out _ _ (HA.out.pp.below (bl_trans HBw.out (bl_one W3 _))) (HA.out.ll.below (bl_trans HBw.out (bl_one W3 _))) (intRow_n2 W3 (an:Int) (bn:Int) _)).mono ?_)
     rintro e w8 ⟨rfl,hb1⟩
     have HBf:=Lib.hid (bl_trans (bl_trans HBw.out (bl_one W3 _)) hb1)
     clear hb1 HMd HBw
     cases d with
     | true=>
      have HZ:Hid (insideF p l i an bn=true):=by unfold Hid;rw [← HIs.out];rfl
      go_wp2_with fail
      go_ret
      exact ⟨by rw [HZ.out];rfl,HBf.out⟩
     | false=>
      by_cases hz:nn=1
      ·have z1:(nn=1)=True:=eq_true hz
       have z2:(nn == 1)=true:=beq_iff_eq.2 hz
       have HZ:Hid (insideF p l i an bn=true):=by unfold Hid;rw [← HIs.out,hz];rfl
       subst hz
       go_wp2_with fail
       go_ret
       exact ⟨by rw [HZ.out];rfl,HBf.out⟩
      ·have z1:(nn=1)=False:=eq_false hz
       have z2:(nn == 1)=false:=beq_eq_false_iff_ne.2 hz
       have HZ:Hid (insideF p l i an bn=false):=by unfold Hid;rw [← HIs.out,decide_eq_false hz];rfl
       go_wp2_with fail
       go_ret
       exact ⟨by rw [HZ.out];rfl,HBf.out⟩
end Go.Proofs.YtpjaefcmaiimlaaGreat
