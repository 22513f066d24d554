/-
  Layer 10: the document's Right and Loops.
-/
import Derived.Test.YtpjaefcmaiimlaaGreatVFirsts
import Derived.Test.YtpjaefcmaiimlaaGreatVRefPL
import Derived.Test.YtpjaefcmaiimlaaGreatRFRingsAll
set_option linter.unusedVariables false
set_option linter.unusedSimpArgs false
set_option linter.deprecated false
namespace Go.Proofs.YtpjaefcmaiimlaaGreat
open Go.RowKit

set_option maxHeartbeats 8000000 in
set_option maxRecDepth 100000 in
theorem refRight10_l (p l i:List Pt) (ap al ai:Option Addr) (cp cl ci:Nat) (w:World) (hA:Pol w ap al ai cp cl ci p l i) :
 Calls Tryz.prog 33 #[.agg #[.slice ap p.length cp,.slice al l.length cl,.slice ai i.length ci]] w (Gives (.bool (rightI p l i)) w):=by
 have HC:=Lib.hid (fun W h=>refFirst10_l p l i ap al ai cp cl ci W (hA.below h))
 have HR:=Lib.hid (right_is p l i)
 clear hA
 generalize rightI p l i=r at *
 generalize firstE p l i=e9 at *
 obtain ⟨⟨c,a,b⟩,hf⟩:∃ f,firstF p l i=f:=⟨_,rfl⟩
 rw [hf] at HC HR
 clear hf
 go_enter Tryz.func33,Tryz.ntmps33
 go_upto_region 1 with (fail)
 have HV:=Lib.hid (var3_new w (.slice ap p.length cp) (.slice al l.length cl) (.slice ai i.length ci) 25 w.heap.size rfl)
 have HB:=Lib.hid (bl_one w (.cells #[.slice ap p.length cp,.slice al l.length cl,.slice ai i.length ci] 25))
 generalize w.alloc (.cells #[.slice ap p.length cp,.slice al l.length cl,.slice ai i.length ci] 25)=W1 at *
 obtain ⟨k0,k1,k2⟩:=HV.out.three
 go_wp2_with fail
 (with_reducible refine (HC.out _ HB.out).mono ?_);rintro e w2 ⟨rfl,hb2⟩
 replace HB:=Lib.hid (bl_trans HB.out hb2)
 clear hb2 HC k0 k1 k2 HV
 dsimp only
 go_upto_region 2 with (fail)
 have HQ:=Lib.hid (var3_new w2 (.int .i64 c) (.int .i64 a) (.int .i64 b) 30 w2.heap.size rfl)
 have HBq:=Lib.hid (bl_trans HB.out (bl_one w2 (.cells #[.int .i64 c,.int .i64 a,.int .i64 b] 30)))
 generalize w2.alloc (.cells #[.int .i64 c,.int .i64 a,.int .i64 b] 30)=W5 at *
 obtain ⟨q0,q1,q2⟩:=HQ.out.three
 by_cases h:e9=0
 ·subst h
  by_cases hc:c=0
  ·subst hc
   have HZ:Hid (r=true):=HR.out
   clear HR
   go_wp2_with fail
   go_ret
   exact ⟨by rw [HZ.out];rfl,HBq.out⟩
  ·have y1:(c=0)=False:=eq_false hc
   have y2:(c == 0)=false:=beq_eq_false_iff_ne.2 hc
   have HZ:Hid (r=false):=by unfold Hid;rw [HR.out,decide_eq_false (show ¬ (Fl.mk c a b).k=0 from hc)];rfl
   clear HR hc
   go_wp2_with fail
   go_ret
   exact ⟨by rw [HZ.out];rfl,HBq.out⟩
 ·have y1:(e9=0)=False:=eq_false h
  have y2:(e9 == 0)=false:=beq_eq_false_iff_ne.2 h
  have HZ:Hid (r=false):=by unfold Hid;rw [HR.out,decide_eq_false h];rfl
  clear HR h
  go_wp2_with fail
  go_ret
  exact ⟨by rw [HZ.out];rfl,HBq.out⟩
set_option maxHeartbeats 8000000 in
set_option maxRecDepth 100000 in
theorem refLoopsL10_l (p l i:List Pt) (ap al ai:Option Addr) (cp cl ci:Nat) (w:World) (hA:Pol w ap al ai cp cl ci p l i) (h300:p.length ≤ 300) :
 Calls Tryz.prog 12 #[.agg #[.slice ap p.length cp,.slice al l.length cl,.slice ai i.length ci]] w fun e W=>∃ ad cap,e=.returned (.tuple #[.slice ad (loopsL p l i).length cap,.int .i64 (loopsE p l i)])∧(loopsL p l i).length ≤ cap∧RowsAt W ad (loopsL p l i)∧(ad=none → cap=0)∧Below w.heap.size w W:=by
 have HC:=Lib.hid (fun W h=>refRight10_l p l i ap al ai cp cl ci W (hA.below h))
 have HRi:=Lib.hid (fun W h=>refRings_l (p.length:Int) l al cl W (hA.ll.below h) (.inl (by omega)) hA.lenL)
 have HL:Hid (loopsL p l i=if rightI p l i=true then (ringsR (p.length:Int) l).1 else []):=rfl
 have HE:Hid (loopsE p l i=if rightI p l i=true then (ringsR (p.length:Int) l).2.2 else 2):=rfl
 clear hA
 generalize rightI p l i=r at *
 generalize loopsL p l i=L at *
 generalize loopsE p l i=E at *
 go_enter Tryz.func12,Tryz.ntmps12
 go_upto_region 1 with (fail)
 have HV:=Lib.hid (var3_new w (.slice ap p.length cp) (.slice al l.length cl) (.slice ai i.length ci) 25 w.heap.size rfl)
 have HB:=Lib.hid (bl_one w (.cells #[.slice ap p.length cp,.slice al l.length cl,.slice ai i.length ci] 25))
 generalize w.alloc (.cells #[.slice ap p.length cp,.slice al l.length cl,.slice ai i.length ci] 25)=W1 at *
 obtain ⟨k0,k1,k2⟩:=HV.out.three
 go_wp2_with fail
 (with_reducible refine (HC.out _ HB.out).mono ?_);rintro e w2 ⟨rfl,hb2⟩
 replace HB:=Lib.hid (bl_trans HB.out hb2)
 replace HV:=Lib.hid (HV.out.below hb2)
 clear hb2 HC k0 k1 k2
 obtain ⟨k0,k1,k2⟩:=HV.out.three
 cases r
 ·obtain rfl:L=[]:=HL.out
  obtain rfl:E=2:=HE.out
  go_wp2_with fail
  go_ret2
  exact ⟨none,0,rfl,Nat.le_refl _,fun _ h=>absurd h (Nat.not_lt_zero _),fun _=>rfl,HB.out⟩
 ·have HL2:Hid (L=(ringsR (p.length:Int) l).1):=HL.out
  have HE2:Hid (E=(ringsR (p.length:Int) l).2.2):=HE.out
  clear HL HE
  go_wp2_with fail
  (with_reducible refine (HRi.out _ HB.out).mono ?_);rintro e w3 ⟨v,rfl,⟨ad,cap,rfl,hcap,hrow,hnil⟩,hb3⟩
  rw [← HL2.out] at hcap hrow ⊢
  rw [← HE2.out]
  have HB3:=Lib.hid (bl_trans HB.out hb3)
  have HR:=Lib.hid hrow
  have HCa:=Lib.hid hcap
  have HNi:=Lib.hid hnil
  clear hb3 HRi k0 k1 k2 hrow hcap hnil
  go_wp2_with fail
  go_ret2
  exact ⟨ad,cap,rfl,HCa.out,HR.out,HNi.out,HB3.out⟩
end Go.Proofs.YtpjaefcmaiimlaaGreat
