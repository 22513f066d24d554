/-
  The law ValidLoops.
-/
import Derived.Test.YtpjaefcmaiimlaaGreatVRefI
import Derived.Test.YtpjaefcmaiimlaaGreatVSameI
import Derived.Test.YtpjaefcmaiimlaaGreatVLawK
import Derived.Test.YtpjaefcmaiimlaaGreatVMany
set_option linter.unusedVariables false
set_option linter.unusedSimpArgs false
set_option linter.deprecated false
namespace Go.Proofs.YtpjaefcmaiimlaaGreat
open Go.RowKit

theorem loopF_len (K:Int → Pt) (f:Int):∀ (k:Nat) (b p:Int),(loopF K f k b p).length ≤ k
 | 0,_,_=>Nat.le_refl _
 | k + 1,b,p=>by
  rw [loopF]
  split
  ·exact Nat.zero_le _
  ·have:=loopF_len K f k p (nextF K b p)
   simp;omega
theorem ringsTo_few (K:Int → Pt) (n:Nat):∀ m,(ringsTo K n m).length ≤ m∧∀ R ∈ ringsTo K n m,R.length ≤ n + 1
 | 0=>⟨Nat.le_refl _,fun _ h=>by cases h⟩
 | m + 1=>by
  obtain ⟨h1,h2⟩:=ringsTo_few K n m
  rw [ringsTo]
  split
  ·exact ⟨by omega,h2⟩
  ·refine ⟨by simp;omega,fun R hR=>?_⟩
   rcases List.mem_append.1 hR with hR | hR
   ·exact h2 R hR
   ·obtain rfl:=List.mem_singleton.1 hR
    have:=loopF_len K (m:Int) n (m:Int) (min (K (m:Int)).x (K (m:Int)).y)
    unfold ringF
    simp;omega
theorem loops_few (p l i:List Pt):(loopsL p l i).length ≤ p.length∧∀ R ∈ loopsL p l i,R.length ≤ p.length + 1:=by
 have h0:([]:List (List Int)).length ≤ p.length∧∀ R ∈ ([]:List (List Int)),R.length ≤ p.length + 1:=⟨Nat.zero_le _,fun _ h=>by cases h⟩
 unfold loopsL ringsR
 split
 ·split
  ·split
   ·exact h0
   ·split
    ·exact h0
    ·rw [Int.toNat_natCast];exact ringsTo_few _ _ _
  ·exact h0
 ·exact h0
set_option maxHeartbeats 16000000 in
set_option maxRecDepth 100000 in
theorem vloops_l (p l i:List Pt) (ap al ai:Option Addr) (cp cl ci:Nat) (w:World) (hA:PtRow w ap p) (hB0:PtRow w al l) (hC0:PtRow w ai i) (q1:p.length ≤ cp) (q2:l.length ≤ cl) (q3:i.length ≤ ci) (n1:ap=none → cp=0) (n2:al=none → cl=0) (n3:ai=none → ci=0) (a b:Int) :
 Calls Tryz.prog 4 #[.agg #[.slice ap p.length cp,.slice al l.length cl,.slice ai i.length ci],.int .i64 a,.int .i64 b] w (Gives (.bool true) w):=by
 have KN:=Lib.hid (fun W=>known10_l W)
 have HPol0:Hid (p.length ≤ 10000 → l.length ≤ 10000 → i.length ≤ 10000 → Pol w ap al ai cp cl ci p l i):=fun a b c=>⟨hA,hB0,hC0,q1,q2,q3,n1,n2,n3,a,b,c⟩
 have HM:=Lib.hid (fun W=>many10_l p.length l.length i.length ap al ai cp cl ci W)
 clear hA hB0 hC0 q1 q2 q3 n1 n2 n3
 obtain ⟨r,hr⟩:∃ r,many10 p.length l.length i.length=r:=⟨_,rfl⟩
 rw [hr] at HM
 have HR:=Lib.hid hr
 clear hr
 go_enter Tryz.func4,Tryz.ntmps4
 go_upto_region 1 with (fail)
 have HV:=Lib.hid (var3_new w (.slice ap p.length cp) (.slice al l.length cl) (.slice ai i.length ci) 25 w.heap.size rfl)
 have HB:=Lib.hid (bl_one w (.cells #[.slice ap p.length cp,.slice al l.length cl,.slice ai i.length ci] 25))
 generalize w.alloc (.cells #[.slice ap p.length cp,.slice al l.length cl,.slice ai i.length ci] 25)=W1 at *
 obtain ⟨k0,k1,k2⟩:=HV.out.three
 go_wp2_with fail
 (with_reducible refine (HM.out _).mono ?_);rintro e w2 ⟨rfl,hb2⟩
 replace HB:=Lib.hid (bl_trans HB.out hb2)
 replace HV:=Lib.hid (HV.out.below hb2)
 clear hb2 HM k0 k1 k2
 cases r
 case true=>
  go_wp2_with fail
  (with_reducible refine (KN.out _).mono ?_);rintro e w9 ⟨rfl,hb9⟩
  have HBz:=Lib.hid (bl_trans HB.out hb9)
  clear hb9
  go_wp2_with fail
  go_ret
  exact ⟨rfl,HBz.out⟩
 case false=>
 have hA:Pol w ap al ai cp cl ci p l i:=by
  obtain ⟨a,b,c⟩:=many_no HR.out
  exact HPol0.out (by omega) (by omega) (by omega)
 have HPol:=Lib.hid hA
 have hmn:=many_no HR.out
 have HLo:=Lib.hid (fun W (h:Below w.heap.size w W)=>loops10_l p l i ap al ai cp cl ci W (HPol.out.below h))
 have HRe:=Lib.hid (fun W (h:Below w.heap.size w W)=>refLoopsL10_l p l i ap al ai cp cl ci W (HPol.out.below h) hmn.1)
 have HI1:=Lib.hid (fun W (h:Below w.heap.size w W)=>inside10_l p l i a b ap al ai cp cl ci W (HPol.out.below h))
 have HI2:=Lib.hid (fun W (h:Below w.heap.size w W)=>refInsideP10_l p l i a b ap al ai cp cl ci W (HPol.out.below h))
 have HI3:=Lib.hid (fun W (h:Below w.heap.size w W)=>inside10_l p l i b a ap al ai cp cl ci W (HPol.out.below h))
 rw [inside_swapF a b] at HI3
 have hfw:=loops_few p l i
 have HFw:Hid ((loopsL p l i).length ≤ 1000∧∀ R ∈ loopsL p l i,R.length ≤ 1000):=⟨by omega,fun R hR=>by have:=hfw.2 R hR;omega⟩
 clear HPol0 HR hA hmn hfw
 generalize insideF p l i a b=q at *
 generalize loopsL p l i=L at *
 generalize loopsE p l i=E at *
 obtain ⟨k0,k1,k2⟩:=HV.out.three
 go_wp2_with fail
 (with_reducible refine (HLo.out _ HB.out).mono ?_);rintro e w3 ⟨a1,c1,rfl,-,hR1,-,hb2⟩
 have HR1:=Lib.hid hR1
 replace HB:=Lib.hid (bl_trans HB.out hb2)
 replace HV:=Lib.hid (HV.out.below hb2)
 clear hb2 HLo hR1 k0 k1 k2
 obtain ⟨k0,k1,k2⟩:=HV.out.three
 go_wp2_with fail
 (with_reducible refine (HRe.out _ HB.out).mono ?_);rintro e w4 ⟨a2,c2,rfl,-,hR2,-,hb2⟩
 have HR2:=Lib.hid hR2
 replace HR1:=Lib.hid (HR1.out.below hb2)
 replace HB:=Lib.hid (bl_trans HB.out hb2)
 replace HV:=Lib.hid (HV.out.below hb2)
 clear hb2 HRe hR2 k0 k1 k2
 go_wp2_with fail
 go_loopw [11] (fun iv W=>∃ j:Nat,j ≤ L.length∧iv=.int .i64 j∧Below w4.heap.size w4 W) (fun iv _=>L.length - (intOf iv).toNat)
 case atStart=>exact ⟨0,Nat.zero_le _,rfl,Below.refl _ _⟩
 case round=>
  obtain ⟨j,hj,rfl,hb⟩:=hrel
  have HB2:=Lib.hid hb
  clear hb
  obtain ⟨W3,eW⟩:∃ W3,W3=wr:=⟨_,rfl⟩
  subst eW
  have hL9:=HFw.out.1
  obtain ⟨n1,n3,n2,n4⟩:=wnum (i:=j) (by omega)
  by_cases hlt:j < L.length
  ·have b2:((j:Int) < (L.length:Int))=True:=eq_true (by omega)
   have d2:(j < L.length)=True:=eq_true hlt
   have c2:((0:Int) ≤ (j:Int))=True:=eq_true (by omega)
   obtain ⟨g1,o1,b1,d1,e1,x1,-,y1,-⟩:=HR1.out j hlt
   obtain ⟨g2,o2,b3,d3,e2,x2,-,y2,-⟩:=HR2.out j hlt
   subst e1 e2
   have HX1:=Lib.hid x1
   have HX2:=Lib.hid x2
   have HS:=Lib.hid (fun W (h:Below w4.heap.size w4 W)=>sameInts10_l (L[j]) (by have:=HFw.out.2 _ (List.getElem_mem hlt);omega) b1 b3 d1 d3 W (y1.below h) (y2.below h))
   have HL1:=Lib.hid (cell_lt x1)
   have HL2:=Lib.hid (cell_lt x2)
   clear x1 x2 y1 y2
   generalize L[j]=R at *
   go_upto_region 10 with (fail)
   refine wp_region_held_drew (S:=fun V=>Below w4.heap.size w4 V) (by kernel_rfl) ?_ (fun hHeld=>?_)
   ·exact HB2.out.drew
   revert hHeld
   generalize World.drew _=W1
   intro hHeld 
   refine tk (i:=0) (v:=?_) rfl (Or.inl ⟨by rfl,?_⟩) ?_
   rotate_left;· rintro _ -;go_simp;all_goals (with_reducible rfl)
   try simp only [Act.put,x2,x4,x5,x6,x7]
   refine tk (i:=1) (v:=?_) rfl (Or.inl ⟨by rfl,?_⟩) ?_
   rotate_left;· rintro _ -;go_simp;all_goals (with_reducible rfl)
   try simp only [Act.put,x2,x3,x4,x5,x6,x7]
   refine tk (i:=2) (v:=?_) rfl (Or.inl ⟨by rfl,?_⟩) ?_
   rotate_left;· rintro _ -;go_simp;all_goals (with_reducible rfl)
   try simp only [Act.put,x2,x3,x4,x5,x6,x7]
   refine tk (i:=3) (v:=?_) rfl (Or.inl ⟨by rfl,?_⟩) ?_
   rotate_left
   ·intro Wq hSw
    have x1:=(hSw.cell (p:=⟨g1,o1 + j,none⟩) HL1.out).trans HX1.out
    clear hSw
    go_simp;all_goals (with_reducible rfl)
   try simp only [Act.put,x2,x3,x4,x5,x6,x7]
   refine tk (i:=4) (v:=?_) rfl (Or.inl ⟨by rfl,?_⟩) ?_
   rotate_left;· rintro _ -;go_simp;all_goals (with_reducible rfl)
   try simp only [Act.put,x2,x3,x4,x5,x6,x7]
   refine tk (i:=5) (v:=?_) rfl (Or.inl ⟨by rfl,?_⟩) ?_
   rotate_left;· rintro _ -;go_simp;all_goals (with_reducible rfl)
   try simp only [Act.put,x2,x3,x4,x5,x6,x7]
   refine tk (i:=6) (v:=?_) rfl (Or.inl ⟨by rfl,?_⟩) ?_
   rotate_left;· rintro _ -;go_simp;all_goals (with_reducible rfl)
   try simp only [Act.put,x2,x3,x4,x5,x6,x7]
   refine tk (i:=7) (v:=?_) rfl (Or.inl ⟨by rfl,?_⟩) ?_
   rotate_left
   ·intro Wq hSw
    have x2:=(hSw.cell (p:=⟨g2,o2 + j,none⟩) HL2.out).trans HX2.out
    clear hSw
    go_simp;all_goals (with_reducible rfl)
   try simp only [Act.put,x2,x3,x4,x5,x6,x7]
   refine r1 (i:=8) rfl (fun K hK=>?_)
   go_simp
   (with_reducible refine (HS.out _ hHeld).mono ?_);rintro e w8 ⟨rfl,hb1⟩
   refine hK.out _ _ (bl_trans hHeld hb1) (fun hHeld2=>?_)
   clear hK K hHeld
   have hHeld:=hHeld2
   clear hHeld2
   try simp only [Act.put,x2,x3,x4,x5,x6,x7]
   refine tk (i:=9) (v:=?_) rfl (Or.inl ⟨by rfl,?_⟩) ?_
   rotate_left;· rintro _ -;go_simp;all_goals (with_reducible rfl)
   try simp only [Act.put,x2,x3,x4,x5,x6,x7]
   refine wpAnyH_done (by kernel_rfl) ?_ _
   go_wp2_with fail
   go_roundw
   case rel=>exact ⟨j + 1,hlt,by simp,hHeld⟩
   case measure=>simp [intOf] <;> omega
  ·have hjn:j=L.length:=by omega
   have b2:((j:Int) < (L.length:Int))=False:=eq_false (by omega)
   have d2:(j < L.length)=False:=eq_false hlt
   replace HB:=Lib.hid (bl_trans HB.out HB2.out)
   replace HV:=Lib.hid (HV.out.below HB2.out)
   clear hj hlt hjn n1 n2 n3 n4 HB2 HR1 HR2 HFw hL9
   obtain ⟨k0,k1,k2⟩:=HV.out.three
   go_wp2_with fail
   (with_reducible refine (HI1.out _ HB.out).mono ?_);rintro e w5 ⟨rfl,hb2⟩
   replace HB:=Lib.hid (bl_trans HB.out hb2)
   replace HV:=Lib.hid (HV.out.below hb2)
   clear hb2 HI1 k0 k1 k2 b2 d2
   obtain ⟨k0,k1,k2⟩:=HV.out.three
   go_wp2_with fail
   (with_reducible refine (HI2.out _ HB.out).mono ?_);rintro e w6 ⟨rfl,hb2⟩
   replace HB:=Lib.hid (bl_trans HB.out hb2)
   replace HV:=Lib.hid (HV.out.below hb2)
   clear hb2 HI2 k0 k1 k2
   obtain ⟨k0,k1,k2⟩:=HV.out.three
   cases q
   ·go_wp2_with fail
    (with_reducible refine (HI3.out _ HB.out).mono ?_);rintro e w7 ⟨rfl,hb2⟩
    replace HB:=Lib.hid (bl_trans HB.out hb2)
    clear hb2 HI3 k0 k1 k2
    go_wp2_with fail
    (with_reducible refine (KN.out _).mono ?_);rintro e w9 ⟨rfl,hb9⟩
    have HBz:=Lib.hid (bl_trans HB.out hb9)
    clear hb9
    go_wp2_with fail
    go_ret
    exact ⟨rfl,HBz.out⟩
   ·go_wp2_with fail
    (with_reducible refine (HI3.out _ HB.out).mono ?_);rintro e w7 ⟨rfl,hb2⟩
    replace HB:=Lib.hid (bl_trans HB.out hb2)
    clear hb2 HI3 k0 k1 k2
    go_wp2_with fail
    (with_reducible refine (KN.out _).mono ?_);rintro e w9 ⟨rfl,hb9⟩
    have HBz:=Lib.hid (bl_trans HB.out hb9)
    clear hb9
    go_wp2_with fail
    go_ret
    exact ⟨rfl,HBz.out⟩
end Go.Proofs.YtpjaefcmaiimlaaGreat
