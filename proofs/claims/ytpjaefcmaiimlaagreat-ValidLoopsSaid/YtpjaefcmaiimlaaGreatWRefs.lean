/-
  Contracts of the document's Where, At.
-/
import Derived.Test.YtpjaefcmaiimlaaGreatWCheck
import Derived.Test.YtpjaefcmaiimlaaGreatRefOns
set_option linter.unusedVariables false
set_option linter.unusedSimpArgs false
set_option linter.deprecated false
namespace Go.Proofs.YtpjaefcmaiimlaaGreat
open Go.RowKit

set_option maxHeartbeats 8000000 in
set_option maxRecDepth 100000 in
theorem where9_l (p l:List Pt) (q:Pt) (ap al:Option Addr) (cp cl:Nat) (kk:Int) (hk0:0 ≤ kk) (hk3:kk ≤ 3) (w:World) (hP:PtRow w ap p) (hL:PtRow w al l) (hll:l.length ≤ 10000) (hpr:properL p l=true) (hft:fitK kk p l=true) (fq:fitB q=true) :
 Calls Tryz.prog 54 #[.slice ap p.length cp,.slice al l.length cl,.int .i64 kk,.agg #[.int .i64 q.x,.int .i64 q.y]] w (Gives (.int .i64 (whereZ kk p l q)) w):=by
 have HP:=Lib.hid hP
 have HL:=Lib.hid hL
 have HPr:=Lib.hid hpr
 have HFt:=Lib.hid hft
 have HFq:=Lib.hid fq
 clear hP hL hpr hft fq
 go_enter Tryz.func54,Tryz.ntmps54
 go_upto_region 1 with (fail)
 have HQ0:=Lib.hid (var2_new w (.int .i64 q.x) (.int .i64 q.y) 64 w.heap.size rfl)
 have HB0:=Lib.hid (bl_one w (.cells #[.int .i64 q.x,.int .i64 q.y] 64))
 generalize w.alloc (.cells #[.int .i64 q.x,.int .i64 q.y] 64)=W1 at *
 go_wp2_with fail
 go_loopw [9,10] (fun cv iv W=>∃ k n:Nat,k ≤ l.length∧iv=.int .i64 k∧(∀ i,i < k → onB (endsOf kk p l i).1 (endsOf kk p l i).2 q=false)∧cv=.int .i64 n∧n ≤ k∧(xorN (fun i=>rightB (endsOf kk p l i).1 (endsOf kk p l i).2 q) k=decide (n % 2=1))∧Below W1.heap.size W1 W) (fun _ iv _=>l.length - (intOf iv).toNat)
 case atStart=>exact ⟨0,0,Nat.zero_le _,rfl,fun i hi=>absurd hi (Nat.not_lt_zero _),rfl,Nat.le_refl _,rfl,Below.refl _ _⟩
 case round=>
  obtain ⟨k,n,hk,rfl,hS,rfl,hnk,hX,hB⟩:=hrel
  have HBb:=Lib.hid hB
  have HB:=Lib.hid (bl_trans HB0.out hB)
  have HS:=Lib.hid hS
  have HXr:=Lib.hid hX
  clear hB hS hX
  by_cases hlt:k < l.length
  ·have b2:((k:Int) < (l.length:Int))=True:=eq_true (by omega)
   have d2:(k < l.length)=True:=eq_true hlt
   have c2:((0:Int) ≤ (k:Int))=True:=eq_true (by omega)
   obtain ⟨g,o,rfl⟩:=HL.out.some (by omega)
   obtain ⟨s,hs⟩:∃ s,pget l k=s:=⟨_,rfl⟩
   obtain ⟨hkx,hky,-⟩:=ok9_iff.1 (proper_iff.1 HPr.out k hlt)
   rw [hs] at hkx hky
   obtain ⟨x0,x1,xf⟩:=known_iff.1 hkx
   obtain ⟨y0,y1,yf⟩:=known_iff.1 hky
   obtain ⟨a,ha⟩:=Int.eq_ofNat_of_zero_le x0
   obtain ⟨b,hb⟩:=Int.eq_ofNat_of_zero_le y0
   have hap:a < p.length:=by omega
   have hbp:b < p.length:=by omega
   obtain ⟨gp,op,rfl⟩:=HP.out.some (by omega)
   obtain ⟨qa,hqa⟩:∃ q,pget p a=q:=⟨_,rfl⟩
   obtain ⟨qb,hqb⟩:∃ q,pget p b=q:=⟨_,rfl⟩
   have ea:ptI p s.x=qa:=by rw [ha];unfold ptI;rw [Int.toNat_natCast,hqa]
   have eb:ptI p s.y=qb:=by rw [hb];unfold ptI;rw [Int.toNat_natCast,hqb]
   rw [ea] at xf
   rw [eb] at yf
   obtain ⟨A,hA⟩:∃ A,scaleP kk qa=A:=⟨_,rfl⟩
   obtain ⟨B,hBB⟩:∃ B,scaleP kk qb=B:=⟨_,rfl⟩
   have HEN:Hid (endsOf kk p l k=(A,B)):=by
    unfold Hid endsOf
    rw [hs,ea,eb,hA,hBB]
   have hfk:=fitK_iff.1 HFt.out k hlt
   rw [HEN.out] at hfk
   have HT1:=Lib.hid (fun W=>times9_l qa kk xf hk0 hk3 W)
   have HT2:=Lib.hid (fun W=>times9_l qb kk yf hk0 hk3 W)
   rw [hA] at HT1
   rw [hBB] at HT2
   have HON:=Lib.hid (fun W=>refOnE_l A B q W)
   have HFR:=Lib.hid (fun W=>farther_l A B q hfk.1 hfk.2 HFq.out W)
   have HOn:Hid (onB (endsOf kk p l k).1 (endsOf kk p l k).2 q=onB A B q):=by unfold Hid;rw [HEN.out]
   have HRi:Hid (rightB (endsOf kk p l k).1 (endsOf kk p l k).2 q=((decide (q.y < A.y) != decide (q.y < B.y)) && decide (0 < (B.y - A.y) * crossZ A B q))):=by unfold Hid;rw [HEN.out];rfl
   generalize onB A B q=so at *
   obtain ⟨sr,hsr⟩:∃ r,decide (0 < (B.y - A.y) * crossZ A B q)=r:=⟨_,rfl⟩
   rw [hsr] at HFR HRi
   have HSK:=Lib.hid hs
   have HAx:=Lib.hid ha
   have HBx:=Lib.hid hb
   have HQA:=Lib.hid hqa
   have HQB:=Lib.hid hqb
   clear hs hkx hky x0 x1 xf y0 y1 yf ha hb ea eb hA hBB hfk HEN hqa hqb hsr
   have b3:((a:Int) < (p.length:Int))=True:=eq_true (by omega)
   have d3:(a < p.length)=True:=eq_true hap
   have c3:((0:Int) ≤ (a:Int))=True:=eq_true (by omega)
   have b4:((b:Int) < (p.length:Int))=True:=eq_true (by omega)
   have d4:(b < p.length)=True:=eq_true hbp
   have c4:((0:Int) ≤ (b:Int))=True:=eq_true (by omega)
   obtain ⟨k0,k1⟩:=ptRow_at (HL.out.below HB.out) hlt HSK.out
   rw [HAx.out] at k0
   rw [HBx.out] at k1
   obtain ⟨p0,p1⟩:=ptRow_at (HP.out.below HB.out) hap HQA.out
   go_wp2_with fail
   (with_reducible refine (HT1.out _).mono ?_);rintro e w2 ⟨rfl,hb2⟩
   go_upto_region 6 with (fail)
   have HVa:=Lib.hid (var2_new w2 (.int .i64 A.x) (.int .i64 A.y) 64 w2.heap.size rfl)
   have hb3:=bl_trans hb2 (bl_one w2 (.cells #[.int .i64 A.x,.int .i64 A.y] 64))
   replace HBb:=Lib.hid (bl_trans HBb.out hb3)
   replace HB:=Lib.hid (bl_trans HB.out hb3)
   clear hb2 hb3 k0 k1 p0 p1 HT1
   generalize w2.alloc (.cells #[.int .i64 A.x,.int .i64 A.y] 64)=W3 at *
   generalize w2.heap.size=g11 at *
   obtain ⟨k0,k1⟩:=ptRow_at (HL.out.below HB.out) hlt HSK.out
   rw [HAx.out] at k0
   rw [HBx.out] at k1
   obtain ⟨p0,p1⟩:=ptRow_at (HP.out.below HB.out) hbp HQB.out
   go_wp2_with fail
   (with_reducible refine (HT2.out _).mono ?_);rintro e w4 ⟨rfl,hb2⟩
   go_upto_region 7 with (fail)
   have HVb:=Lib.hid (var2_new w4 (.int .i64 B.x) (.int .i64 B.y) 64 w4.heap.size rfl)
   have hb3:=bl_trans hb2 (bl_one w4 (.cells #[.int .i64 B.x,.int .i64 B.y] 64))
   replace HVa:=Lib.hid (HVa.out.below hb3)
   replace HBb:=Lib.hid (bl_trans HBb.out hb3)
   replace HB:=Lib.hid (bl_trans HB.out hb3)
   clear hb2 hb3 k0 k1 p0 p1 HT2
   generalize w4.alloc (.cells #[.int .i64 B.x,.int .i64 B.y] 64)=W5 at *
   generalize w4.heap.size=g12 at *
   obtain ⟨q0,q1⟩:=(HQ0.out.below HBb.out).two
   obtain ⟨v0,v1⟩:=HVa.out.two
   obtain ⟨v2,v3⟩:=HVb.out.two
   go_wp2_with fail
   (with_reducible refine (HON.out _).mono ?_);rintro e w6 ⟨rfl,hb2⟩
   replace HVa:=Lib.hid (HVa.out.below hb2)
   replace HVb:=Lib.hid (HVb.out.below hb2)
   replace HBb:=Lib.hid (bl_trans HBb.out hb2)
   replace HB:=Lib.hid (bl_trans HB.out hb2)
   clear hb2 q0 q1 v0 v1 v2 v3 HON
   cases so
   case true=>
    have HN:Hid (whereZ kk p l q=0):=by
     unfold Hid whereZ whereN
     rw [if_pos (anyN_yes hlt HOn.out)]
    go_wp2_with fail
    go_ret
    exact ⟨by rw [HN.out];rfl,HB.out⟩
   case false=>
   obtain ⟨q0,q1⟩:=(HQ0.out.below HBb.out).two
   obtain ⟨v0,v1⟩:=HVa.out.two
   obtain ⟨v2,v3⟩:=HVb.out.two
   have hxs:=xorN_succ (fun i=>rightB (endsOf kk p l i).1 (endsOf kk p l i).2 q) k
   rw [HRi.out,HXr.out] at hxs
   have HXS:=Lib.hid hxs
   clear hxs HXr HRi
   have hcase:(q.y < A.y∧q.y < B.y) ∨ (¬ q.y < A.y∧¬ q.y < B.y) ∨ (q.y < A.y∧¬ q.y < B.y) ∨ (¬ q.y < A.y∧q.y < B.y):=by omega
   have FIN:Hid (∀ W (n':Nat),n' ≤ k + 1 → xorN (fun i=>rightB (endsOf kk p l i).1 (endsOf kk p l i).2 q) (k + 1)=decide (n' % 2=1) → Below W1.heap.size W1 W →
    ∃ k' n'':Nat,k' ≤ l.length∧(.int .i64 ((k:Int) + 1):Value)=.int .i64 k'∧(∀ i,i < k' → onB (endsOf kk p l i).1 (endsOf kk p l i).2 q=false)∧(.int .i64 (n':Int):Value)=.int .i64 n''∧n'' ≤ k'∧xorN (fun i=>rightB (endsOf kk p l i).1 (endsOf kk p l i).2 q) k'=decide (n'' % 2=1)∧Below W1.heap.size W1 W):=fun W n' h1 h2 h3=>by
    refine ⟨k + 1,n',hlt,by rw [Int.natCast_add];rfl,fun i hi=>?_,rfl,h1,h2,h3⟩
    rcases Nat.lt_or_eq_of_le (Nat.le_of_lt_succ hi) with h | rfl
    ·exact HS.out i h
    ·exact HOn.out
   rcases hcase with ⟨h1,h2⟩ | ⟨h1,h2⟩ | ⟨h1,h2⟩ | ⟨h1,h2⟩
   ·have u1:(q.y < A.y)=True:=eq_true h1
    have u2:(q.y < B.y)=True:=eq_true h2
    rw [decide_eq_true h1,decide_eq_true h2] at HXS
    clear h1 h2
    have HXT:Hid (xorN (fun i=>rightB (endsOf kk p l i).1 (endsOf kk p l i).2 q) (k + 1)=decide (n % 2=1)):=by
     unfold Hid
     rw [HXS.out];cases decide (n % 2=1) <;> rfl
    obtain ⟨m1,m2,m3,m4⟩:=wnum (i:=k) (by omega)
    go_wp2_with fail
    clear m1 m2 m3 m4
    exact ⟨FIN.out _ n (by omega) HXT.out HBb.out,by simp [intOf];omega⟩
   ·have u1:(q.y < A.y)=False:=eq_false h1
    have u2:(q.y < B.y)=False:=eq_false h2
    rw [decide_eq_false h1,decide_eq_false h2] at HXS
    clear h1 h2
    have HXT:Hid (xorN (fun i=>rightB (endsOf kk p l i).1 (endsOf kk p l i).2 q) (k + 1)=decide (n % 2=1)):=by
     unfold Hid
     rw [HXS.out];cases decide (n % 2=1) <;> rfl
    obtain ⟨m1,m2,m3,m4⟩:=wnum (i:=k) (by omega)
    go_wp2_with fail
    clear m1 m2 m3 m4
    exact ⟨FIN.out _ n (by omega) HXT.out HBb.out,by simp [intOf];omega⟩
   ·have u1:(q.y < A.y)=True:=eq_true h1
    have u2:(q.y < B.y)=False:=eq_false h2
    rw [decide_eq_true h1,decide_eq_false h2] at HXS
    clear h1 h2
    go_wp2_with fail
    (with_reducible refine (HFR.out _).mono ?_);rintro e w7 ⟨rfl,hb2⟩
    replace HBb:=Lib.hid (bl_trans HBb.out hb2)
    clear hb2 q0 q1 v0 v1 v2 v3 HFR HB
    cases sr
    ·have HXT:Hid (xorN (fun i=>rightB (endsOf kk p l i).1 (endsOf kk p l i).2 q) (k + 1)=decide (n % 2=1)):=by
      unfold Hid
      rw [HXS.out];cases decide (n % 2=1) <;> rfl
     obtain ⟨m1,m2,m3,m4⟩:=wnum (i:=k) (by omega)
     go_wp2_with fail
     clear m1 m2 m3 m4
     exact ⟨FIN.out _ n (by omega) HXT.out HBb.out,by simp [intOf];omega⟩
    ·have HXT:Hid (xorN (fun i=>rightB (endsOf kk p l i).1 (endsOf kk p l i).2 q) (k + 1)=decide ((n + 1) % 2=1)):=by
      unfold Hid
      rw [HXS.out]
      have:decide ((n + 1) % 2=1) = !(decide (n % 2=1)):=by
       rcases Nat.mod_two_eq_zero_or_one n with h | h
       ·rw [h];exact decide_eq_true (by omega)
       ·rw [h];exact decide_eq_false (by omega)
      rw [this];cases decide (n % 2=1) <;> rfl
     obtain ⟨m1,m2,m3,m4⟩:=wnum (i:=k) (by omega)
     obtain ⟨m5,m6,m7,m8⟩:=wnum (i:=n) (by omega)
     go_wp2_with fail
     clear m1 m2 m3 m4 m5 m6 m7 m8
     exact ⟨FIN.out _ (n + 1) (by omega) HXT.out HBb.out,by simp [intOf];omega⟩
   ·have u1:(q.y < A.y)=False:=eq_false h1
    have u2:(q.y < B.y)=True:=eq_true h2
    rw [decide_eq_false h1,decide_eq_true h2] at HXS
    clear h1 h2
    go_wp2_with fail
    (with_reducible refine (HFR.out _).mono ?_);rintro e w7 ⟨rfl,hb2⟩
    replace HBb:=Lib.hid (bl_trans HBb.out hb2)
    clear hb2 q0 q1 v0 v1 v2 v3 HFR HB
    cases sr
    ·have HXT:Hid (xorN (fun i=>rightB (endsOf kk p l i).1 (endsOf kk p l i).2 q) (k + 1)=decide (n % 2=1)):=by
      unfold Hid
      rw [HXS.out];cases decide (n % 2=1) <;> rfl
     obtain ⟨m1,m2,m3,m4⟩:=wnum (i:=k) (by omega)
     go_wp2_with fail
     clear m1 m2 m3 m4
     exact ⟨FIN.out _ n (by omega) HXT.out HBb.out,by simp [intOf];omega⟩
    ·have HXT:Hid (xorN (fun i=>rightB (endsOf kk p l i).1 (endsOf kk p l i).2 q) (k + 1)=decide ((n + 1) % 2=1)):=by
      unfold Hid
      rw [HXS.out]
      have:decide ((n + 1) % 2=1) = !(decide (n % 2=1)):=by
       rcases Nat.mod_two_eq_zero_or_one n with h | h
       ·rw [h];exact decide_eq_true (by omega)
       ·rw [h];exact decide_eq_false (by omega)
      rw [this];cases decide (n % 2=1) <;> rfl
     obtain ⟨m1,m2,m3,m4⟩:=wnum (i:=k) (by omega)
     obtain ⟨m5,m6,m7,m8⟩:=wnum (i:=n) (by omega)
     go_wp2_with fail
     clear m1 m2 m3 m4 m5 m6 m7 m8
     exact ⟨FIN.out _ (n + 1) (by omega) HXT.out HBb.out,by simp [intOf];omega⟩
  ·obtain rfl:k=l.length:=by omega
   have b2:((l.length:Int) < (l.length:Int))=False:=eq_false (by omega)
   have HN:Hid (anyN (fun i=>onB (endsOf kk p l i).1 (endsOf kk p l i).2 q) l.length=false):=anyN_no.2 HS.out
   have HZ:Hid (whereZ kk p l q=if decide (n % 2=1)=true then 1 else -1):=by
    unfold Hid whereZ whereN
    rw [HN.out,HXr.out];rfl
   have hm:(n:Int).tmod 2=((n % 2:Nat):Int):=rfl
   rcases Nat.mod_two_eq_zero_or_one n with h | h
   ·rw [h] at hm HZ
    have q5:((2:Int)=0)=False:=by simp
    go_wp2_with fail
    go_ret
    exact ⟨by rw [HZ.out];rfl,HB.out⟩
   ·rw [h] at hm HZ
    go_wp2_with fail
    go_ret
    exact ⟨by rw [HZ.out];rfl,HB.out⟩
end Go.Proofs.YtpjaefcmaiimlaaGreat

/-
  Contracts of the document's At, Middle.
-/
namespace Go.Proofs.YtpjaefcmaiimlaaGreat
open Go.RowKit

set_option maxHeartbeats 8000000 in
set_option maxRecDepth 100000 in
theorem refMid9_l (p l:List Pt) (is:List Int) (ap al:Option Addr) (gi oi:Nat) (cp cl ci:Nat) (w:World) (hP:PtRow w ap p) (hL:PtRow w al l) (hI:IntRow w (some ⟨gi,oi,none⟩) is) (hll:l.length ≤ 10000) (h3:is.length ≤ 3) :
 Calls Tryz.prog 42 #[.slice ap p.length cp,.slice al l.length cl,.slice (some ⟨gi,oi,none⟩) is.length ci] w (Gives (.tuple #[.int .i64 (midN p l is),.int .i64 (midE p l is)]) w):=by
 have HP:=Lib.hid hP
 have HL:=Lib.hid hL
 have HI:=Lib.hid hI
 clear hP hL hI
 go_enter Tryz.func42,Tryz.ntmps42
 go_upto_region 2 with (fail)
 have HV0:=Lib.hid (var2_new w (.int .i64 0) (.int .i64 0) 64 w.heap.size rfl)
 have HB0:=Lib.hid (bl_one w (.cells #[.int .i64 0,.int .i64 0] 64))
 generalize w.alloc (.cells #[.int .i64 0,.int .i64 0] 64)=W1 at *
 go_wp2_with fail
 go_loopw [9] (fun iv W=>∃ k:Nat,k ≤ is.length∧iv=.int .i64 k∧(∀ i,∀ h:i < is.length,i < k → knownB p is[i]=true)∧Var W w.heap.size [.int .i64 (sumP p (is.take k)).x,.int .i64 (sumP p (is.take k)).y]∧BdP k (sumP p (is.take k))∧Below w.heap.size w W) (fun iv _=>is.length - (intOf iv).toNat)
 case atStart=>exact ⟨0,Nat.zero_le _,rfl,fun i _ hi=>absurd hi (Nat.not_lt_zero _),HV0.out,by unfold BdP sumP;simp,HB0.out⟩
 case round=>
  obtain ⟨k,hk,rfl,hS,hV,hb,hB⟩:=hrel
  have HB:=Lib.hid hB
  have HS:=Lib.hid hS
  have HV:=Lib.hid hV
  have HBd:=Lib.hid hb
  clear hB hS hV hb HV0 HB0
  by_cases hlt:k < is.length
  ·have b2:((k:Int) < (is.length:Int))=True:=eq_true (by omega)
   have d2:(k < is.length)=True:=eq_true hlt
   have c2:((0:Int) ≤ (k:Int))=True:=eq_true (by omega)
   obtain ⟨x,hx⟩:∃ x,is[k]=x:=⟨_,rfl⟩
   have k0:=intRow_at (HI.out.below HB.out) hlt hx
   have HX:=Lib.hid hx
   have HNo:Hid (knownB p x=false → midN p l is=0∧midE p l is=2):=fun h=>by
    have:is.all (knownB p)=false:=by
     rw [List.all_eq_false]
     exact ⟨x,by rw [← HX.out];exact List.getElem_mem _,by rw [h];simp⟩
    unfold midN midE
    rw [this];exact ⟨rfl,rfl⟩
   clear hx
   by_cases h0:x < 0
   ·have q1:(x < 0)=True:=eq_true h0
    have HZ:=Lib.hid (HNo.out (by unfold knownB;rw [decide_eq_false (by omega)];rfl))
    clear h0 HNo
    go_wp2_with fail
    go_ret2
    exact ⟨by rw [HZ.out.1,HZ.out.2];rfl,HB.out⟩
   have q1:(x < 0)=False:=eq_false h0
   obtain ⟨a,rfl⟩:=Int.eq_ofNat_of_zero_le (show 0 ≤ x by omega)
   by_cases h1:p.length ≤ a
   ·have q3:((p.length:Int) ≤ (a:Int))=True:=eq_true (by omega)
    have q3':(p.length ≤ a)=True:=eq_true h1
    have HZ:=Lib.hid (HNo.out (by unfold knownB;rw [decide_eq_false (show ¬ (a:Int) < (p.length:Int) by omega)];simp))
    clear h0 h1 HNo
    go_wp2_with fail
    go_ret2
    exact ⟨by rw [HZ.out.1,HZ.out.2];rfl,HB.out⟩
   have q3:((p.length:Int) ≤ (a:Int))=False:=eq_false (by omega)
   have q3':(p.length ≤ a)=False:=eq_false h1
   have hap:a < p.length:=by omega
   obtain ⟨gp,op,rfl⟩:=HP.out.some (by omega)
   obtain ⟨q,hq⟩:∃ q,pget p a=q:=⟨_,rfl⟩
   have hqq:ptI p (a:Int)=q:=by unfold ptI;rw [Int.toNat_natCast,hq]
   obtain ⟨r,hr⟩:∃ r,fitB q=r:=⟨_,rfl⟩
   have HKn:Hid (knownB p (a:Int)=r):=by
    unfold Hid knownB
    rw [hqq,hr,decide_eq_true (show (0:Int) ≤ (a:Int) by omega),decide_eq_true (show (a:Int) < (p.length:Int) by omega)];rfl
   have HF:=Lib.hid (fun W=>refFits3_l q W)
   rw [hr] at HF
   have HR:=Lib.hid hr
   have HQ:=Lib.hid hq
   have HQQ:=Lib.hid hqq
   obtain ⟨p0,p1⟩:=ptRow_at (HP.out.below HB.out) hap hq
   have b3:((a:Int) < (p.length:Int))=True:=eq_true (by omega)
   have d3:(a < p.length)=True:=eq_true hap
   have c3:((0:Int) ≤ (a:Int))=True:=eq_true (by omega)
   clear hq hqq hr h0 h1
   go_wp2_with fail
   (with_reducible refine (HF.out _).mono ?_);rintro e w2 ⟨rfl,hb2⟩
   replace HV:=Lib.hid (HV.out.below hb2)
   replace HB:=Lib.hid (bl_trans HB.out hb2)
   clear hb2 HF k0 p0 p1
   cases r
   ·have HZ:=Lib.hid (HNo.out HKn.out)
    go_wp2_with fail
    go_ret2
    exact ⟨by rw [HZ.out.1,HZ.out.2];rfl,HB.out⟩
   ·have hfi:=fitB_iff.1 HR.out
    have HSn:Hid (sumP p (is.take (k + 1))=⟨(sumP p (is.take k)).x + q.x,(sumP p (is.take k)).y + q.y⟩):=by
     unfold Hid
     rw [List.take_succ_eq_append_getElem hlt,sumP_snoc,HX.out,HQQ.out]
    obtain ⟨sm,hsm⟩:∃ s,sumP p (is.take k)=s:=⟨_,rfl⟩
    rw [hsm] at HV HSn HBd
    have hbd:=HBd.out
    unfold Pt.fits at hfi
    unfold BdP at hbd
    have HBd2:Hid (BdP ((k:Int) + 1) ⟨sm.x + q.x,sm.y + q.y⟩):=by
     unfold Hid BdP;dsimp only;omega
    obtain ⟨k0,k1⟩:=ptRow_at (HP.out.below HB.out) hap HQ.out
    have kx:=intRow_at (HI.out.below HB.out) hlt HX.out
    obtain ⟨c0,c1⟩:=HV.out.two
    obtain ⟨f0,f1⟩:=HV.out.free2
    have hgp:gp < w.heap.size:=cell_lt (ptRow_at HP.out hap HQ.out).1
    have hgi:gi < w.heap.size:=cell_lt (intRow_at HI.out hlt HX.out)
    have hgw:=HV.out.lt
    have m1:wrap64 (sm.x + q.x)=sm.x + q.x:=by unfold wrap64;omega
    have m2:IntKind.i64.wrap (sm.x + q.x)=sm.x + q.x:=IntWalk.i64_in _ (by omega)
    have m3:wrap64 (sm.y + q.y)=sm.y + q.y:=by unfold wrap64;omega
    have m4:IntKind.i64.wrap (sm.y + q.y)=sm.y + q.y:=IntWalk.i64_in _ (by omega)
    clear hfi hsm hbd HBd
    go_upto_region 7 with (fail)
    go_region
    go_upto_region 8 with (fail)
    have HV7:=Lib.hid ((HV.out.put0 (.int .i64 (sm.x + q.x))).below (bel_drew _))
    replace HB:=Lib.hid (bl_trans (bl_set HB.out (p:=⟨w.heap.size,0,none⟩) (Nat.le_refl _) (.int .i64 (sm.x + q.x))) (bel_drew _))
    clear k0 k1 kx c0 c1 f0 f1 HV
    generalize ((w2.setCell ⟨w.heap.size,0,none⟩ (.int .i64 (sm.x + q.x))).drew)=W7 at *
    obtain ⟨k0,k1⟩:=ptRow_at (HP.out.below HB.out) hap HQ.out
    have kx:=intRow_at (HI.out.below HB.out) hlt HX.out
    obtain ⟨c0,c1⟩:=HV7.out.two
    obtain ⟨f0,f1⟩:=HV7.out.free2
    have hgw7:=HV7.out.lt
    go_region
    obtain ⟨n1,n2,n3,n4⟩:=wnum (i:=k) (by omega)
    go_wp2_with fail
    clear n1 n2 n3 n4 m1 m2 m3 m4
    refine ⟨⟨k + 1,hlt,by rw [Int.natCast_add];rfl,fun i h hi=>?_,?_,?_,?_⟩,by simp [intOf];omega⟩
    ·rcases Nat.lt_or_eq_of_le (Nat.le_of_lt_succ hi) with h4 | rfl
     ·exact HS.out i h h4
     ·rw [HX.out];exact HKn.out
    ·rw [HSn.out]
     exact (HV7.out.put1 (.int .i64 (sm.y + q.y))).below (bel_drew _)
    ·rw [HSn.out,Int.natCast_add];exact HBd2.out
    ·exact bl_trans (bl_set HB.out (p:=⟨w.heap.size,1,none⟩) (Nat.le_refl _) (.int .i64 (sm.y + q.y))) (bel_drew _)
  ·obtain rfl:k=is.length:=by omega
   have b2:((is.length:Int) < (is.length:Int))=False:=eq_false (by omega)
   have HAl:Hid (is.all (knownB p)=true):=by
    unfold Hid
    rw [List.all_eq_true]
    intro x hx
    obtain ⟨i,hi,rfl⟩:=List.getElem_of_mem hx
    exact HS.out i hi hi
   rw [List.take_length] at HV
   have HZ:Hid (midN p l is=atN is.length p l (sumP p is)∧midE p l is=atE is.length p l (sumP p is)):=by
    unfold Hid midN midE
    rw [HAl.out];exact ⟨rfl,rfl⟩
   obtain ⟨sm,hsm⟩:∃ s,sumP p is=s:=⟨_,rfl⟩
   rw [hsm] at HV HZ
   have HC1:=Lib.hid (check_l p l ap al cp cl is.length (by omega) (by omega) wr (HP.out.below HB.out) (HL.out.below HB.out) hll)
   obtain ⟨r1,hr1⟩:∃ r,checkL is.length p l=r:=⟨_,rfl⟩
   obtain ⟨r3,hr3⟩:∃ r,fitB sm=r:=⟨_,rfl⟩
   have HAt:Hid (atB is.length p l sm=(r1 && r3)):=by unfold Hid atB;rw [← check_is,hr1,hr3]
   rw [hr1] at HC1
   have HR1:=Lib.hid hr1
   have HR3:=Lib.hid hr3
   clear hsm hr1 hr3 HS HBd HAl HI
   have RET:atB is.length p l sm=false → midN p l is=0∧midE p l is=2:=fun h=>by
    rw [HZ.out.1,HZ.out.2];unfold atN atE;rw [h];exact ⟨rfl,rfl⟩
   have HRET:=Lib.hid RET
   clear RET
   go_wp2_with fail
   (with_reducible refine HC1.out.mono ?_);rintro e w2 ⟨rfl,hb2⟩
   replace HV:=Lib.hid (HV.out.below hb2)
   replace HB:=Lib.hid (bl_trans HB.out hb2)
   clear hb2 HC1
   cases r1
   ·have HZ2:=Lib.hid (HRET.out HAt.out)
    go_wp2_with fail
    go_ret2
    exact ⟨by rw [HZ2.out.1,HZ2.out.2];rfl,HB.out⟩
   obtain ⟨c0,c1⟩:=HV.out.two
   have HF:=Lib.hid (refFits3_l sm w2)
   rw [HR3.out] at HF
   go_wp2_with fail
   (with_reducible refine HF.out.mono ?_);rintro e w4 ⟨rfl,hb2⟩
   replace HV:=Lib.hid (HV.out.below hb2)
   replace HB:=Lib.hid (bl_trans HB.out hb2)
   clear hb2 HF c0 c1
   cases r3
   ·have HZ2:=Lib.hid (HRET.out HAt.out)
    go_wp2_with fail
    go_ret2
    exact ⟨by rw [HZ2.out.1,HZ2.out.2];rfl,HB.out⟩
   obtain ⟨hp1,hf1⟩:=Bool.and_eq_true_iff.1 ((check_is is.length p l).symm.trans HR1.out)
   have HC3:=Lib.hid (where9_l p l sm ap al cp cl is.length (by omega) (by omega) w4 (HP.out.below HB.out) (HL.out.below HB.out) hll hp1 hf1 HR3.out)
   have HZ2:Hid (midN p l is=whereZ is.length p l sm∧midE p l is=0):=by
    unfold Hid
    rw [HZ.out.1,HZ.out.2]
    unfold atN atE
    rw [HAt.out];exact ⟨rfl,rfl⟩
   obtain ⟨c0,c1⟩:=HV.out.two
   clear hp1 hf1
   go_wp2_with fail
   (with_reducible refine HC3.out.mono ?_);rintro e w5 ⟨rfl,hb2⟩
   replace HB:=Lib.hid (bl_trans HB.out hb2)
   clear hb2 HC3 c0 c1 HV
   go_wp2_with fail
   go_ret2
   exact ⟨by rw [HZ2.out.1,HZ2.out.2];rfl,HB.out⟩
end Go.Proofs.YtpjaefcmaiimlaaGreat
