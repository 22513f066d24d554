/-
  Layer 10: valid.alike.
-/
import Derived.Test.YtpjaefcmaiimlaaGreatVMems
import Derived.Test.YtpjaefcmaiimlaaGreatVSorts
import Derived.Test.YtpjaefcmaiimlaaGreatVMaths
import Derived.Test.YtpjaefcmaiimlaaGreatRLoopsAll
import Derived.Test.YtpjaefcmaiimlaaGreatWMids0
import Derived.Test.YtpjaefcmaiimlaaGreatMeetAll
set_option linter.unusedVariables false
set_option linter.unusedSimpArgs false
set_option linter.deprecated false
namespace Go.Proofs.YtpjaefcmaiimlaaGreat
open Go.RowKit

theorem twice_chk {p l i:List Pt} {a b:Int} {ok:Bool} (h:TwiceIs p a b ok):chk p l i 0=if ok=true then ⟨1,a,b⟩ else fl0:=by
 have he:∀ x y:Pt,eqB x y=true ↔ x=y:=fun x y=>by unfold eqB;exact decide_eq_true_iff
 rcases h with ⟨rfl,rfl,rfl,h⟩ | ⟨rfl,i,k,rfl,rfl,h⟩
 ·refine fl2_no fun a b ha hb=>?_
  unfold alikeF
  by_cases hab:a < b
  ·rw [decide_eq_true hab,Bool.eq_false_iff,Ne,Bool.true_and,he];exact h a b hab hb
  ·rw [decide_eq_false hab];rfl
 ·rw [if_pos rfl]
  refine fl2_at (by have:=h.lt;have:=h.le;omega) h.le ?_ fun a b ha hb hab=>?_
  ·unfold alikeF
   rw [decide_eq_true h.lt,(he _ _).2 h.eq];rfl
  ·unfold alikeF
   by_cases hl:a < b
   ·rw [decide_eq_true hl,Bool.eq_false_iff,Ne,Bool.true_and,he]
    intro e
    have:=h.least a b hl hb e
    omega
   ·rw [decide_eq_false hl];rfl

set_option maxHeartbeats 4000000 in
set_option maxRecDepth 100000 in
theorem alike_l (p l i:List Pt) (ap al ai:Option Addr) (cp cl ci:Nat) (w:World) (hA:Pol w ap al ai cp cl ci p l i) :
 Calls Tryz.prog 18 #[.agg #[.slice ap p.length cp,.slice al l.length cl,.slice ai i.length ci]] w (Gives (.agg #[.int .i64 (chk p l i 0).k,.int .i64 (chk p l i 0).a,.int .i64 (chk p l i 0).b]) w):=by
 have HT:=Lib.hid (fun W h=>twice_l p ap cp W (hA.pp.below h) hA.capP hA.lenP)
 have HC:=Lib.hid (fun a b ok h=>@twice_chk p l i a b ok h)
 clear hA
 generalize chk p l i 0=F at *
 go_enter Tryz.func18,Tryz.ntmps18
 go_upto_region 1 with (fail)
 have HV:=Lib.hid ((var3_new w (.slice ap p.length cp) (.slice al l.length cl) (.slice ai i.length ci) 25 w.heap.size rfl).below (bl_one _ (.cells #[.int .i64 0,.int .i64 0,.int .i64 0] 30)))
 have HF:=Lib.hid (var3_new (w.alloc (.cells #[.slice ap p.length cp,.slice al l.length cl,.slice ai i.length ci] 25)) (.int .i64 0) (.int .i64 0) (.int .i64 0) 30 (w.heap.size + 1) (by simp))
 have HB:=Lib.hid (bl_alloc (bl_one w (.cells #[.slice ap p.length cp,.slice al l.length cl,.slice ai i.length ci] 25)) (.cells #[.int .i64 0,.int .i64 0,.int .i64 0] 30))
 generalize (w.alloc (.cells #[.slice ap p.length cp,.slice al l.length cl,.slice ai i.length ci] 25)).alloc (.cells #[.int .i64 0,.int .i64 0,.int .i64 0] 30)=W1 at *
 obtain ⟨k0,k1,k2⟩:=HV.out.three
 go_wp2_with fail
 (with_reducible refine (HT.out _ HB.out).mono ?_);rintro e w2 ⟨a,b,ok,rfl,hT,hb2⟩
 replace HB:=Lib.hid (bl_trans HB.out hb2)
 replace HF:=Lib.hid (HF.out.below hb2)
 have HZ:=Lib.hid (HC.out _ _ _ hT)
 clear hb2 HT k0 k1 k2 HV hT HC
 obtain ⟨d0,d1,d2⟩:=HF.out.three
 obtain ⟨f0,f1,f2⟩:=HF.out.free3
 cases ok
 ·go_wp2_with fail
  obtain ⟨e0,e1,e2⟩:=(HF.out.set3 (.int .i64 0) (.int .i64 0) (.int .i64 0)).three
  refine bodyPost_ret (v:=.agg #[.int .i64 0,.int .i64 0,.int .i64 0]) (by simp [results,Tryz.results18,go_sem,e0,e1,e2];done) rfl ⟨by rw [HZ.out];rfl,?_⟩
  exact bl_set (bl_set (bl_set HB.out (by dsimp only;omega) _) (by dsimp only;omega) _) (by dsimp only;omega) _
 ·go_wp2_with fail
  obtain ⟨e0,e1,e2⟩:=(HF.out.set3 (.int .i64 1) (.int .i64 a) (.int .i64 b)).three
  refine bodyPost_ret (v:=.agg #[.int .i64 1,.int .i64 a,.int .i64 b]) (by simp [results,Tryz.results18,go_sem,e0,e1,e2];done) rfl ⟨by rw [HZ.out];rfl,?_⟩
  exact bl_set (bl_set (bl_set HB.out (by dsimp only;omega) _) (by dsimp only;omega) _) (by dsimp only;omega) _
end Go.Proofs.YtpjaefcmaiimlaaGreat

/-
  Layer 10: valid's halfway, shrunk, open, empty, out.
-/
namespace Go.Proofs.YtpjaefcmaiimlaaGreat
open Go.RowKit

set_option maxHeartbeats 8000000 in
set_option maxRecDepth 100000 in
theorem half10_l (p l i:List Pt) (s:Pt) (ap al ai:Option Addr) (cp cl ci:Nat) (w:World) (hA:Pol w ap al ai cp cl ci p l i) :
 Calls Tryz.prog 38 #[.agg #[.slice ap p.length cp,.slice al l.length cl,.slice ai i.length ci],.agg #[.int .i64 s.x,.int .i64 s.y]] w (Gives (.bool (midW p l s)) w):=by
 have HH:=Lib.hid (fun W h=>half9_l p l s.x s.y ap al cp cl W (hA.pp.below h) (hA.ll.below h) hA.lenL)
 have HM:Hid (midW p l s=decide (midN p l [s.x,s.y]=1)):=rfl
 clear hA
 generalize midW p l s=r at *
 generalize midN p l [s.x,s.y]=z at *
 generalize midE p l [s.x,s.y]=ee at *
 obtain ⟨x,y⟩:=s
 dsimp only at *
 go_enter Tryz.func38,Tryz.ntmps38
 go_upto_region 1 with (fail)
 have HV:=Lib.hid ((var3_new w (.slice ap p.length cp) (.slice al l.length cl) (.slice ai i.length ci) 25 w.heap.size rfl).below (bl_one _ (.cells #[.int .i64 x,.int .i64 y] 59)))
 have HS:=Lib.hid (var2_new (w.alloc (.cells #[.slice ap p.length cp,.slice al l.length cl,.slice ai i.length ci] 25)) (.int .i64 x) (.int .i64 y) 59 (w.heap.size + 1) (by simp))
 have HB:=Lib.hid (bl_alloc (bl_one w (.cells #[.slice ap p.length cp,.slice al l.length cl,.slice ai i.length ci] 25)) (.cells #[.int .i64 x,.int .i64 y] 59))
 generalize (w.alloc (.cells #[.slice ap p.length cp,.slice al l.length cl,.slice ai i.length ci] 25)).alloc (.cells #[.int .i64 x,.int .i64 y] 59)=W1 at *
 obtain ⟨k0,k1,k2⟩:=HV.out.three
 obtain ⟨s0,s1⟩:=HS.out.two
 go_wp2_with fail
 (with_reducible refine (HH.out _ HB.out).mono ?_);rintro e w2 ⟨rfl,hb2⟩
 replace HB:=Lib.hid (bl_trans HB.out hb2)
 clear hb2 k0 k1 k2 s0 s1 HV HS HH
 by_cases h:z=1
 ·subst h
  go_wp2_with fail
  go_ret
  exact ⟨by rw [HM.out];rfl,HB.out⟩
 ·have b1:(z=1)=False:=eq_false h
  have b2:(z == 1)=false:=beq_eq_false_iff_ne.2 h
  have HR:Hid (r=false):=by unfold Hid;rw [HM.out];exact decide_eq_false h
  clear h
  go_wp2_with fail
  go_ret
  exact ⟨by rw [HR.out];rfl,HB.out⟩
set_option maxRecDepth 100000 in
theorem shr1_l (x y:Int) (w:World):Calls Tryz.prog 47 #[.agg #[.int .i64 x,.int .i64 y]] w (Gives (.bool (decide (x=y))) w):=by
 go_enter Tryz.func47,Tryz.ntmps47
 by_cases h:x=y
 ·subst h
  have HD:Hid (decide (x=x)=true):=decide_eq_true rfl
  go_wp2_with fail
  go_ret
  exact ⟨by first | rfl | (rw [HD.out];rfl),by repeat (first | (with_reducible exact Below.refl _ _) | (with_reducible refine bl_alloc ?_ _) | (with_reducible refine Below.drew ?_) | (with_reducible refine below_drewN' ?_ _) | ((with_reducible refine bl_set ?_ ?_ _);(rotate_left;(dsimp only;omega))))⟩
 ·have b1:(x=y)=False:=eq_false h
  have b2:(x == y)=false:=beq_eq_false_iff_ne.2 h
  have HD:Hid (decide (x=y)=false):=decide_eq_false h
  clear h
  go_wp2_with fail
  go_ret
  exact ⟨by first | rfl | (rw [HD.out];rfl),by repeat (first | (with_reducible exact Below.refl _ _) | (with_reducible refine bl_alloc ?_ _) | (with_reducible refine Below.drew ?_) | (with_reducible refine below_drewN' ?_ _) | ((with_reducible refine bl_set ?_ ?_ _);(rotate_left;(dsimp only;omega))))⟩
set_option maxHeartbeats 8000000 in
set_option maxRecDepth 100000 in
theorem shrunk_l (p l i:List Pt) (ap al ai:Option Addr) (cp cl ci:Nat) (w:World) (hA:Pol w ap al ai cp cl ci p l i) (S:List Pt) (hS:l ++ i=S) :
 Calls Tryz.prog 19 #[.agg #[.slice ap p.length cp,.slice al l.length cl,.slice ai i.length ci]] w (Gives (.agg #[.int .i64 (chk p l i 1).k,.int .i64 (chk p l i 1).a,.int .i64 (chk p l i 1).b]) w):=by
 have HG:=Lib.hid (fun W h=>vsegs_l p l i S hS ap al ai cp cl ci W (hA.below h))
 have HNO:Hid ((∀ a,a < S.length → shrunkF S a=false) → chk p l i 1=fl0):=by subst hS;exact fun h=>fl1_no h
 have HAT:Hid (∀ j,j < S.length → shrunkF S j=true → (∀ a,a < j → shrunkF S a=false) → chk p l i 1=⟨2,j,0⟩):=by subst hS;exact fun j h1 h2 h3=>fl1_at h1 h2 h3
 have hl:S.length ≤ 100000:=by have:=hA.lenL;have:=hA.lenI;rw [← hS,List.length_append];omega
 have HLn:=Lib.hid hl
 clear hA hS hl
 generalize chk p l i 1=F at *
 go_enter Tryz.func19,Tryz.ntmps19
 go_upto_region 1 with (fail)
 have HV:=Lib.hid ((var3_new w (.slice ap p.length cp) (.slice al l.length cl) (.slice ai i.length ci) 25 w.heap.size rfl).below (bl_one _ (.cells #[.int .i64 0,.int .i64 0,.int .i64 0] 30)))
 have HF:=Lib.hid (var3_new (w.alloc (.cells #[.slice ap p.length cp,.slice al l.length cl,.slice ai i.length ci] 25)) (.int .i64 0) (.int .i64 0) (.int .i64 0) 30 (w.heap.size + 1) (by simp))
 have HB:=Lib.hid (bl_alloc (bl_one w (.cells #[.slice ap p.length cp,.slice al l.length cl,.slice ai i.length ci] 25)) (.cells #[.int .i64 0,.int .i64 0,.int .i64 0] 30))
 generalize (w.alloc (.cells #[.slice ap p.length cp,.slice al l.length cl,.slice ai i.length ci] 25)).alloc (.cells #[.int .i64 0,.int .i64 0,.int .i64 0] 30)=W1 at *
 obtain ⟨k0,k1,k2⟩:=HV.out.three
 go_wp2_with fail
 (with_reducible refine (HG.out _ HB.out).mono ?_);rintro e w2 ⟨ad,cap,rfl,hcap,hR,hn,hb2⟩
 have HIX:=Lib.hid (indexFuncS_l (cap:=cap) 47 #[] (fun _ _=>rfl) S ad (shrunkF S) (fun _ W=>Below w2.heap.size w2 W) (fun _ W h=>hR.below h) (fun k W hk h=>(shr1_l (pget S k).x (pget S k).y W).mono (fun e W' hg=>⟨hg.1,bl_trans h hg.2⟩)) HLn.out w2 (Below.refl _ _))
 replace HB:=Lib.hid (bl_trans HB.out hb2)
 replace HF:=Lib.hid (HF.out.below hb2)
 clear hb2 HG k0 k1 k2 HV hR hn hcap
 go_wp2_with fail
 (with_reducible refine HIX.out.mono ?_);rintro e w3 ⟨rfl,-,hb2⟩
 replace HB:=Lib.hid (bl_trans HB.out hb2)
 replace HF:=Lib.hid (HF.out.below hb2)
 clear hb2 HIX
 rcases firstN_cases (shrunkF S) S.length with ⟨e9,h9⟩ | ⟨j,j1,e9,j3,j4⟩
 ·rw [e9]
  have HZ:=Lib.hid (HNO.out h9)
  clear h9 e9
  obtain ⟨d0,d1,d2⟩:=HF.out.three
  obtain ⟨f0,f1,f2⟩:=HF.out.free3
  go_wp2_with fail
  obtain ⟨e0,e1,e2⟩:=(HF.out.set3 (.int .i64 0) (.int .i64 0) (.int .i64 0)).three
  refine bodyPost_ret (v:=.agg #[.int .i64 0,.int .i64 0,.int .i64 0]) (by simp [results,Tryz.results19,go_sem,e0,e1,e2];done) rfl ⟨by rw [HZ.out] <;> rfl,?_⟩
  exact bl_set (bl_set (bl_set HB.out (by dsimp only;omega) _) (by dsimp only;omega) _) (by dsimp only;omega) _
 ·rw [e9]
  have HZ:=Lib.hid (HAT.out j j1 j3 j4)
  have q0:((0:Int) ≤ (j:Int))=True:=eq_true (by omega)
  clear j1 j3 j4 e9
  obtain ⟨d0,d1,d2⟩:=HF.out.three
  obtain ⟨f0,f1,f2⟩:=HF.out.free3
  go_wp2_with fail
  obtain ⟨e0,e1,e2⟩:=(HF.out.set3 (.int .i64 2) (.int .i64 j) (.int .i64 0)).three
  refine bodyPost_ret (v:=.agg #[.int .i64 2,.int .i64 j,.int .i64 0]) (by simp [results,Tryz.results19,go_sem,e0,e1,e2];done) rfl ⟨by rw [HZ.out] <;> rfl,?_⟩
  exact bl_set (bl_set (bl_set HB.out (by dsimp only;omega) _) (by dsimp only;omega) _) (by dsimp only;omega) _
set_option maxHeartbeats 8000000 in
set_option maxRecDepth 100000 in
theorem open_l (p l i:List Pt) (ap al ai:Option Addr) (cp cl ci:Nat) (w:World) (hA:Pol w ap al ai cp cl ci p l i) (hc:ChkOk p l i) (h3:(flTo p l i 3).k=0) :
 Calls Tryz.prog 22 #[.agg #[.slice ap p.length cp,.slice al l.length cl,.slice ai i.length ci]] w (Gives (.agg #[.int .i64 (chk p l i 4).k,.int .i64 (chk p l i 4).a,.int .i64 (chk p l i 4).b]) w):=by
 have HR:=Lib.hid (fun W h=>rings_l (p.length:Int) l al cl W (hA.ll.below h) (by have:=hA.lenP;omega) hA.lenL)
 have HQ:=Lib.hid (rings_10 hc h3)
 clear hA hc h3
 have HZ0:Hid ((chk p l i 4).k=0 → chk p l i 4=fl0):=fun h=>by
  rcases chk_vals p l i 4 with e | e
  ·exact e
  ·rw [h] at e;cases e
 generalize chk p l i 4=F at *
 go_enter Tryz.func22,Tryz.ntmps22
 go_upto_region 1 with (fail)
 have HV:=Lib.hid ((var3_new w (.slice ap p.length cp) (.slice al l.length cl) (.slice ai i.length ci) 25 w.heap.size rfl).below (bl_one _ (.cells #[.int .i64 0,.int .i64 0,.int .i64 0] 30)))
 have HF:=Lib.hid (var3_new (w.alloc (.cells #[.slice ap p.length cp,.slice al l.length cl,.slice ai i.length ci] 25)) (.int .i64 0) (.int .i64 0) (.int .i64 0) 30 (w.heap.size + 1) (by simp))
 have HB:=Lib.hid (bl_alloc (bl_one w (.cells #[.slice ap p.length cp,.slice al l.length cl,.slice ai i.length ci] 25)) (.cells #[.int .i64 0,.int .i64 0,.int .i64 0] 30))
 generalize (w.alloc (.cells #[.slice ap p.length cp,.slice al l.length cl,.slice ai i.length ci] 25)).alloc (.cells #[.int .i64 0,.int .i64 0,.int .i64 0] 30)=W1 at *
 obtain ⟨k0,k1,k2⟩:=HV.out.three
 go_wp2_with fail
 (with_reducible refine (HR.out _ HB.out).mono ?_);rintro e w2 ⟨v,rfl,-,hb2⟩
 replace HB:=Lib.hid (bl_trans HB.out hb2)
 replace HF:=Lib.hid (HF.out.below hb2)
 clear hb2 HR k0 k1 k2 HV
 rcases HQ.out with ⟨hz,hr⟩ | ⟨j,hz,hr⟩
 ·have HZ:=Lib.hid (HZ0.out hz)
  rw [hr]
  clear hz hr HQ HZ0
  dsimp only
  obtain ⟨d0,d1,d2⟩:=HF.out.three
  obtain ⟨f0,f1,f2⟩:=HF.out.free3
  go_wp2_with fail
  obtain ⟨e0,e1,e2⟩:=(HF.out.set3 (.int .i64 0) (.int .i64 0) (.int .i64 0)).three
  refine bodyPost_ret (v:=.agg #[.int .i64 0,.int .i64 0,.int .i64 0]) (by simp [results,Tryz.results22,go_sem,e0,e1,e2];done) rfl ⟨by rw [HZ.out] <;> rfl,?_⟩
  exact bl_set (bl_set (bl_set HB.out (by dsimp only;omega) _) (by dsimp only;omega) _) (by dsimp only;omega) _
 ·have HZ:=Lib.hid hz
  rw [hr]
  clear hz hr HQ HZ0
  dsimp only
  obtain ⟨d0,d1,d2⟩:=HF.out.three
  obtain ⟨f0,f1,f2⟩:=HF.out.free3
  go_wp2_with fail
  obtain ⟨e0,e1,e2⟩:=(HF.out.set3 (.int .i64 5) (.int .i64 j) (.int .i64 0)).three
  refine bodyPost_ret (v:=.agg #[.int .i64 5,.int .i64 j,.int .i64 0]) (by simp [results,Tryz.results22,go_sem,e0,e1,e2];done) rfl ⟨by rw [HZ.out] <;> rfl,?_⟩
  exact bl_set (bl_set (bl_set HB.out (by dsimp only;omega) _) (by dsimp only;omega) _) (by dsimp only;omega) _
set_option maxHeartbeats 8000000 in
set_option maxRecDepth 100000 in
theorem empty_l (p l i:List Pt) (ap al ai:Option Addr) (cp cl ci:Nat) (w:World) (_:Pol w ap al ai cp cl ci p l i) :
 Calls Tryz.prog 23 #[.agg #[.slice ap p.length cp,.slice al l.length cl,.slice ai i.length ci]] w (Gives (.agg #[.int .i64 (chk p l i 5).k,.int .i64 (chk p l i 5).a,.int .i64 (chk p l i 5).b]) w):=by
 have HQ:Hid (chk p l i 5=if l.length=0 then ⟨6,0,0⟩ else fl0):=rfl
 generalize chk p l i 5=F at *
 obtain ⟨n,hn⟩:∃ n,l.length=n:=⟨_,rfl⟩
 rw [hn] at HQ ⊢
 clear hn
 go_enter Tryz.func23,Tryz.ntmps23
 go_upto_region 1 with (fail)
 have HV:=Lib.hid ((var3_new w (.slice ap p.length cp) (.slice al n cl) (.slice ai i.length ci) 25 w.heap.size rfl).below (bl_one _ (.cells #[.int .i64 0,.int .i64 0,.int .i64 0] 30)))
 have HF:=Lib.hid (var3_new (w.alloc (.cells #[.slice ap p.length cp,.slice al n cl,.slice ai i.length ci] 25)) (.int .i64 0) (.int .i64 0) (.int .i64 0) 30 (w.heap.size + 1) (by simp))
 have HB:=Lib.hid (bl_alloc (bl_one w (.cells #[.slice ap p.length cp,.slice al n cl,.slice ai i.length ci] 25)) (.cells #[.int .i64 0,.int .i64 0,.int .i64 0] 30))
 generalize (w.alloc (.cells #[.slice ap p.length cp,.slice al n cl,.slice ai i.length ci] 25)).alloc (.cells #[.int .i64 0,.int .i64 0,.int .i64 0] 30)=W1 at *
 obtain ⟨k0,k1,k2⟩:=HV.out.three
 by_cases h:n=0
 ·subst h
  have HZ:Hid (F=⟨6,0,0⟩):=HQ.out
  clear HQ
  obtain ⟨d0,d1,d2⟩:=HF.out.three
  obtain ⟨f0,f1,f2⟩:=HF.out.free3
  go_wp2_with fail
  obtain ⟨e0,e1,e2⟩:=(HF.out.set3 (.int .i64 6) (.int .i64 0) (.int .i64 0)).three
  refine bodyPost_ret (v:=.agg #[.int .i64 6,.int .i64 0,.int .i64 0]) (by simp [results,Tryz.results23,go_sem,e0,e1,e2];done) rfl ⟨by rw [HZ.out] <;> rfl,?_⟩
  exact bl_set (bl_set (bl_set HB.out (by dsimp only;omega) _) (by dsimp only;omega) _) (by dsimp only;omega) _
 ·have b1:((n:Int)=0)=False:=eq_false (by omega)
  have b2:((n:Int) == 0)=false:=beq_eq_false_iff_ne.2 (by omega)
  have b3:(n=0)=False:=eq_false h
  have HZ:Hid (F=fl0):=by unfold Hid;rw [HQ.out,if_neg h]
  clear HQ h
  obtain ⟨d0,d1,d2⟩:=HF.out.three
  obtain ⟨f0,f1,f2⟩:=HF.out.free3
  go_wp2_with fail
  obtain ⟨e0,e1,e2⟩:=(HF.out.set3 (.int .i64 0) (.int .i64 0) (.int .i64 0)).three
  refine bodyPost_ret (v:=.agg #[.int .i64 0,.int .i64 0,.int .i64 0]) (by simp [results,Tryz.results23,go_sem,e0,e1,e2];done) rfl ⟨by rw [HZ.out] <;> rfl,?_⟩
  exact bl_set (bl_set (bl_set HB.out (by dsimp only;omega) _) (by dsimp only;omega) _) (by dsimp only;omega) _
set_option maxHeartbeats 8000000 in
set_option maxRecDepth 100000 in
theorem out1_l (p l i:List Pt) (s:Pt) (ap al ai:Option Addr) (cp cl ci:Nat) (w:World) (hA:Pol w ap al ai cp cl ci p l i) (g:Nat) (hv:Var w g [.slice ap p.length cp,.slice al l.length cl,.slice ai i.length ci]) :
 Calls Tryz.prog 51 #[.agg #[.int .i64 s.x,.int .i64 s.y],.pointer (some ⟨g,0,none⟩)] w (Gives (.bool (!(midW p l s))) w):=by
 have HH:=Lib.hid (fun W h=>half10_l p l i s ap al ai cp cl ci W (hA.below h))
 generalize midW p l s=r at *
 have HV:=Lib.hid (hv.below (bl_one w (.cells #[.int .i64 s.x,.int .i64 s.y] 59)))
 clear hA hv
 obtain ⟨x,y⟩:=s
 dsimp only at *
 go_enter Tryz.func51,Tryz.ntmps51
 go_upto_region 1 with (fail)
 have HS:=Lib.hid (var2_new w (.int .i64 x) (.int .i64 y) 59 w.heap.size rfl)
 have HB:=Lib.hid (bl_one w (.cells #[.int .i64 x,.int .i64 y] 59))
 generalize w.alloc (.cells #[.int .i64 x,.int .i64 y] 59)=W1 at *
 obtain ⟨k0,k1,k2⟩:=HV.out.three
 obtain ⟨s0,s1⟩:=HS.out.two
 go_wp2_with fail
 (with_reducible refine (HH.out _ HB.out).mono ?_);rintro e w2 ⟨rfl,hb2⟩
 replace HB:=Lib.hid (bl_trans HB.out hb2)
 clear hb2 k0 k1 k2 s0 s1 HV HS HH
 cases r
 ·go_wp2_with fail
  go_ret
  exact ⟨rfl,HB.out⟩
 ·go_wp2_with fail
  go_ret
  exact ⟨rfl,HB.out⟩
set_option maxHeartbeats 8000000 in
set_option maxRecDepth 100000 in
theorem out_l (p l i:List Pt) (ap al ai:Option Addr) (cp cl ci:Nat) (w:World) (hA:Pol w ap al ai cp cl ci p l i) :
 Calls Tryz.prog 24 #[.agg #[.slice ap p.length cp,.slice al l.length cl,.slice ai i.length ci]] w (Gives (.agg #[.int .i64 (chk p l i 6).k,.int .i64 (chk p l i 6).a,.int .i64 (chk p l i 6).b]) w):=by
 have HO:=Lib.hid (fun s g W (h:Below w.heap.size w W) hv=>out1_l p l i s ap al ai cp cl ci W (hA.below h) g hv)
 have HNO:Hid ((∀ a,a < i.length → (!(midW p l (pget i a)))=false) → chk p l i 6=fl0):=fun h=>fl1_no h
 have HAT:Hid (∀ j,j < i.length → (!(midW p l (pget i j)))=true → (∀ a,a < j → (!(midW p l (pget i a)))=false) → chk p l i 6=⟨7,j,0⟩):=fun j h1 h2 h3=>fl1_at h1 h2 h3
 have HII:=Lib.hid hA.ii
 have HLn:=Lib.hid hA.lenI
 clear hA
 generalize chk p l i 6=F at *
 go_enter Tryz.func24,Tryz.ntmps24
 go_upto_region 1 with (fail)
 have HV:=Lib.hid ((var3_new w (.slice ap p.length cp) (.slice al l.length cl) (.slice ai i.length ci) 25 w.heap.size rfl).below (bl_one _ (.cells #[.int .i64 0,.int .i64 0,.int .i64 0] 30)))
 have HF:=Lib.hid (var3_new (w.alloc (.cells #[.slice ap p.length cp,.slice al l.length cl,.slice ai i.length ci] 25)) (.int .i64 0) (.int .i64 0) (.int .i64 0) 30 (w.heap.size + 1) (by simp))
 have HB:=Lib.hid (bl_alloc (bl_one w (.cells #[.slice ap p.length cp,.slice al l.length cl,.slice ai i.length ci] 25)) (.cells #[.int .i64 0,.int .i64 0,.int .i64 0] 30))
 generalize (w.alloc (.cells #[.slice ap p.length cp,.slice al l.length cl,.slice ai i.length ci] 25)).alloc (.cells #[.int .i64 0,.int .i64 0,.int .i64 0] 30)=W1 at *
 obtain ⟨k0,k1,k2⟩:=HV.out.three
 have HIX:=Lib.hid (indexFuncS_l (cap:=ci) 51 #[.pointer (some ⟨w.heap.size,0,none⟩)] (fun _ _=>rfl) i ai (fun a=>!(midW p l (pget i a))) (fun _ W=>Below W1.heap.size W1 W) (fun _ W h=>(HII.out.below HB.out).below h) (fun k W hk h=>(HO.out (pget i k) w.heap.size W (bl_trans HB.out h) (HV.out.below h)).mono (fun e W' hg=>⟨hg.1,bl_trans h hg.2⟩)) (by have:=HLn.out;omega) W1 (Below.refl _ _))
 go_wp2_with fail
 (with_reducible refine HIX.out.mono ?_);rintro e w3 ⟨rfl,-,hb2⟩
 replace HB:=Lib.hid (bl_trans HB.out hb2)
 replace HF:=Lib.hid (HF.out.below hb2)
 clear hb2 HIX k0 k1 k2 HV HO HII
 rcases firstN_cases (fun a=>!(midW p l (pget i a))) i.length with ⟨e9,h9⟩ | ⟨j,j1,e9,j3,j4⟩
 ·rw [e9]
  have HZ:=Lib.hid (HNO.out h9)
  clear h9 e9
  obtain ⟨d0,d1,d2⟩:=HF.out.three
  obtain ⟨f0,f1,f2⟩:=HF.out.free3
  go_wp2_with fail
  obtain ⟨e0,e1,e2⟩:=(HF.out.set3 (.int .i64 0) (.int .i64 0) (.int .i64 0)).three
  refine bodyPost_ret (v:=.agg #[.int .i64 0,.int .i64 0,.int .i64 0]) (by simp [results,Tryz.results24,go_sem,e0,e1,e2];done) rfl ⟨by rw [HZ.out] <;> rfl,?_⟩
  exact bl_set (bl_set (bl_set HB.out (by dsimp only;omega) _) (by dsimp only;omega) _) (by dsimp only;omega) _
 ·rw [e9]
  have HZ:=Lib.hid (HAT.out j j1 j3 j4)
  have q0:((0:Int) ≤ (j:Int))=True:=eq_true (by omega)
  clear j1 j3 j4 e9
  obtain ⟨d0,d1,d2⟩:=HF.out.three
  obtain ⟨f0,f1,f2⟩:=HF.out.free3
  go_wp2_with fail
  obtain ⟨e0,e1,e2⟩:=(HF.out.set3 (.int .i64 7) (.int .i64 j) (.int .i64 0)).three
  refine bodyPost_ret (v:=.agg #[.int .i64 7,.int .i64 j,.int .i64 0]) (by simp [results,Tryz.results24,go_sem,e0,e1,e2];done) rfl ⟨by rw [HZ.out] <;> rfl,?_⟩
  exact bl_set (bl_set (bl_set HB.out (by dsimp only;omega) _) (by dsimp only;omega) _) (by dsimp only;omega) _
end Go.Proofs.YtpjaefcmaiimlaaGreat

/-
  Layer 10: valid's covered, passes.
-/
namespace Go.Proofs.YtpjaefcmaiimlaaGreat
open Go.RowKit

theorem segsN_vals10 (a b c d:Pt):0 ≤ segsN a b c d:=by
 unfold segsN
 split
 ·rcases common_vals a b c d with h | h | ⟨h,-⟩ <;> omega
 ·exact Int.le_refl 0
set_option maxHeartbeats 8000000 in
set_option maxRecDepth 100000 in
theorem cov1_l (p l i:List Pt) (a b:Nat) (q:Pt) (ha:a < p.length) (hb:b < p.length) (ap al ai:Option Addr) (cp cl ci:Nat) (w:World) (hA:Pol w ap al ai cp cl ci p l i) (g h:Nat) (hv:Var w g [.slice ap p.length cp,.slice al l.length cl,.slice ai i.length ci]) (hq:Var w h [.int .i64 q.x,.int .i64 q.y]) :
 Calls Tryz.prog 49 #[.agg #[.int .i64 (a:Int),.int .i64 (b:Int)],.pointer (some ⟨g,0,none⟩),.pointer (some ⟨h,0,none⟩)] w (Gives (.bool (insideB (pget p a) (pget p b) q)) w):=by
 have hpp:=hA.pp
 obtain ⟨gp,op,rfl⟩:=hpp.some (by omega)
 have HP:=Lib.hid hpp
 clear hA hpp
 obtain ⟨x,hx⟩:∃ x,pget p a=x:=⟨_,rfl⟩
 obtain ⟨y,hy⟩:∃ y,pget p b=y:=⟨_,rfl⟩
 rw [hx,hy]
 have HX:=Lib.hid hx
 have HY:=Lib.hid hy
 have HI:=Lib.hid (fun W=>inside_l x y q W)
 clear hx hy
 generalize insideB x y q=r at *
 go_enter Tryz.func49,Tryz.ntmps49
 go_upto_region 1 with (fail)
 have HV:=Lib.hid (hv.below (bl_one w (.cells #[.int .i64 (a:Int),.int .i64 (b:Int)] 59)))
 have HQ:=Lib.hid (hq.below (bl_one w (.cells #[.int .i64 (a:Int),.int .i64 (b:Int)] 59)))
 have HS:=Lib.hid (var2_new w (.int .i64 (a:Int)) (.int .i64 (b:Int)) 59 w.heap.size rfl)
 have HB:=Lib.hid (bl_one w (.cells #[.int .i64 (a:Int),.int .i64 (b:Int)] 59))
 generalize w.alloc (.cells #[.int .i64 (a:Int),.int .i64 (b:Int)] 59)=W1 at *
 clear hv hq
 refine wp_region_held_drew (S:=fun V=>Below W1.heap.size W1 V) (by kernel_rfl) ?_ (fun hHeld=>?_)
 ·exact bel_drew W1
 revert hHeld
 generalize World.drew _=W1
 intro hHeld 
 refine tk (i:=0) (v:=?_) rfl (Or.inl ⟨by rfl,?_⟩) ?_
 rotate_left;· rintro _ -;go_simp;all_goals (with_reducible rfl)
 try simp only [Act.put,x2,x4,x5,x6,x7]
 refine tk (i:=1) (v:=?_) rfl (Or.inl ⟨by rfl,?_⟩) ?_
 rotate_left
 ·intro Wq hSw
  obtain ⟨k0,k1,k2⟩:=(HV.out.below hSw).three
  clear hSw
  go_simp;all_goals (with_reducible rfl)
 try simp only [Act.put,x2,x3,x4,x5,x6,x7]
 refine tk (i:=2) (v:=?_) rfl (Or.inl ⟨by rfl,?_⟩) ?_
 rotate_left;· rintro _ -;go_simp;all_goals (with_reducible rfl)
 try simp only [Act.put,x2,x3,x4,x5,x6,x7]
 refine tk (i:=3) (v:=?_) rfl (Or.inl ⟨by rfl,?_⟩) ?_
 rotate_left
 ·intro Wq hSw
  obtain ⟨s0,s1⟩:=(HS.out.below hSw).two
  clear hSw
  go_simp;all_goals (with_reducible rfl)
 try simp only [Act.put,x2,x3,x4,x5,x6,x7]
 refine tk (i:=4) (v:=?_) rfl (Or.inl ⟨by rfl,?_⟩) ?_
 rotate_left
 ·intro Wq hSw
  have b1:((a:Int) < (p.length:Int))=True:=eq_true (by omega)
  have d1:(a < p.length)=True:=eq_true (by omega)
  have c1:((0:Int) ≤ (a:Int))=True:=eq_true (by omega)
  clear hSw
  go_simp;all_goals (with_reducible rfl)
 try simp only [Act.put,x2,x3,x4,x5,x6,x7]
 refine tk (i:=5) (v:=?_) rfl (Or.inl ⟨by rfl,?_⟩) ?_
 rotate_left
 ·intro Wq hSw
  obtain ⟨c0,c1⟩:=ptRow_at ((HP.out.below HB.out).below hSw) (i:=a) (by omega) HX.out
  clear hSw
  go_simp;all_goals (with_reducible rfl)
 try simp only [Act.put,x2,x3,x4,x5,x6,x7]
 refine tk (i:=6) (v:=?_) rfl (Or.inl ⟨by rfl,?_⟩) ?_
 rotate_left;· rintro _ -;go_simp;all_goals (with_reducible rfl)
 try simp only [Act.put,x2,x3,x4,x5,x6,x7]
 refine tk (i:=7) (v:=?_) rfl (Or.inl ⟨by rfl,?_⟩) ?_
 rotate_left
 ·intro Wq hSw
  obtain ⟨k0,k1,k2⟩:=(HV.out.below hSw).three
  clear hSw
  go_simp;all_goals (with_reducible rfl)
 try simp only [Act.put,x2,x3,x4,x5,x6,x7]
 refine tk (i:=8) (v:=?_) rfl (Or.inl ⟨by rfl,?_⟩) ?_
 rotate_left;· rintro _ -;go_simp;all_goals (with_reducible rfl)
 try simp only [Act.put,x2,x3,x4,x5,x6,x7]
 refine tk (i:=9) (v:=?_) rfl (Or.inl ⟨by rfl,?_⟩) ?_
 rotate_left
 ·intro Wq hSw
  obtain ⟨s0,s1⟩:=(HS.out.below hSw).two
  clear hSw
  go_simp;all_goals (with_reducible rfl)
 try simp only [Act.put,x2,x3,x4,x5,x6,x7]
 refine tk (i:=10) (v:=?_) rfl (Or.inl ⟨by rfl,?_⟩) ?_
 rotate_left
 ·intro Wq hSw
  have b1:((b:Int) < (p.length:Int))=True:=eq_true (by omega)
  have d1:(b < p.length)=True:=eq_true (by omega)
  have c1:((0:Int) ≤ (b:Int))=True:=eq_true (by omega)
  clear hSw
  go_simp;all_goals (with_reducible rfl)
 try simp only [Act.put,x2,x3,x4,x5,x6,x7]
 refine tk (i:=11) (v:=?_) rfl (Or.inl ⟨by rfl,?_⟩) ?_
 rotate_left
 ·intro Wq hSw
  obtain ⟨c0,c1⟩:=ptRow_at ((HP.out.below HB.out).below hSw) (i:=b) (by omega) HY.out
  clear hSw
  go_simp;all_goals (with_reducible rfl)
 try simp only [Act.put,x2,x3,x4,x5,x6,x7]
 refine tk (i:=12) (v:=?_) rfl (Or.inl ⟨by rfl,?_⟩) ?_
 rotate_left
 ·intro Wq hSw
  obtain ⟨q0,q1⟩:=(HQ.out.below hSw).two
  clear hSw
  go_simp;all_goals (with_reducible rfl)
 try simp only [Act.put,x2,x3,x4,x5,x6,x7]
 refine r1 (i:=13) rfl (fun K hK=>?_)
 go_simp
 (with_reducible refine (HI.out _).mono ?_)
 rintro e w1 ⟨rfl,hb1⟩
 go_wp2_with fail
 refine hK.out _ _ (bl_trans hHeld hb1) (fun hHeld2=>?_)
 clear hK K hHeld
 have hHeld:=hHeld2
 clear hHeld2
 try simp only [Act.put,x2,x3,x4,x5,x6,x7]
 refine tk (i:=14) (v:=?_) rfl (Or.inl ⟨by rfl,?_⟩) ?_
 rotate_left;· rintro _ -;go_simp;all_goals (with_reducible rfl)
 try simp only [Act.put,x2,x3,x4,x5,x6,x7]
 refine wpAnyH_done (by kernel_rfl) ?_ _
 have HBz:=Lib.hid (bl_trans HB.out hHeld)
 clear hHeld
 go_wp2_with fail
 go_ret
 exact ⟨rfl,HBz.out⟩
set_option maxHeartbeats 8000000 in
set_option maxRecDepth 100000 in
theorem pas1_l (p l i:List Pt) (a b:Nat) (x y:Pt) (ha:a < p.length) (hb:b < p.length) (ap al ai:Option Addr) (cp cl ci:Nat) (w:World) (hA:Pol w ap al ai cp cl ci p l i) (g hh h2:Nat) (hv:Var w g [.slice ap p.length cp,.slice al l.length cl,.slice ai i.length ci]) (hx9:Var w hh [.int .i64 x.x,.int .i64 x.y]) (hy9:Var w h2 [.int .i64 y.x,.int .i64 y.y]) :
 Calls Tryz.prog 65 #[.agg #[.int .i64 (a:Int),.int .i64 (b:Int)],.pointer (some ⟨hh,0,none⟩),.pointer (some ⟨h2,0,none⟩),.pointer (some ⟨g,0,none⟩)] w (Gives (.bool (badB ⟨x,y⟩ ⟨pget p a,pget p b⟩)) w):=by
 have hpp:=hA.pp
 obtain ⟨gp,op,rfl⟩:=hpp.some (by omega)
 have HP:=Lib.hid hpp
 clear hA hpp
 obtain ⟨u,hu⟩:∃ u,pget p a=u:=⟨_,rfl⟩
 obtain ⟨v,hv9⟩:∃ v,pget p b=v:=⟨_,rfl⟩
 rw [hu,hv9]
 have HX:=Lib.hid hu
 have HY:=Lib.hid hv9
 have HI:=Lib.hid (fun W=>segs_l x y u v W)
 have HR:Hid (badB ⟨x,y⟩ ⟨u,v⟩=decide (1 < segsN x y u v)):=rfl
 have HVs:=Lib.hid (segsN_vals10 x y u v)
 clear hu hv9
 generalize badB ⟨x,y⟩ ⟨u,v⟩=r at *
 generalize segsN x y u v=z at *
 generalize segsE x y u v=ze at *
 go_enter Tryz.func65,Tryz.ntmps65
 go_upto_region 1 with (fail)
 have HV:=Lib.hid (hv.below (bl_one w (.cells #[.int .i64 (a:Int),.int .i64 (b:Int)] 59)))
 have HQ:=Lib.hid (hx9.below (bl_one w (.cells #[.int .i64 (a:Int),.int .i64 (b:Int)] 59)))
 have HQ2:=Lib.hid (hy9.below (bl_one w (.cells #[.int .i64 (a:Int),.int .i64 (b:Int)] 59)))
 have HS:=Lib.hid (var2_new w (.int .i64 (a:Int)) (.int .i64 (b:Int)) 59 w.heap.size rfl)
 have HB:=Lib.hid (bl_one w (.cells #[.int .i64 (a:Int),.int .i64 (b:Int)] 59))
 generalize w.alloc (.cells #[.int .i64 (a:Int),.int .i64 (b:Int)] 59)=W1 at *
 clear hv hx9 hy9
 refine wp_region_held_drew (S:=fun V=>Below W1.heap.size W1 V) (by kernel_rfl) ?_ (fun hHeld=>?_)
 ·exact bel_drew W1
 revert hHeld
 generalize World.drew _=W1
 intro hHeld 
 refine tk (i:=0) (v:=?_) rfl (Or.inl ⟨by rfl,?_⟩) ?_
 rotate_left
 ·intro Wq hSw
  obtain ⟨q0,q1⟩:=(HQ.out.below hSw).two
  clear hSw
  go_simp;all_goals (with_reducible rfl)
 try simp only [Act.put,x2,x4,x5,x6,x7]
 refine tk (i:=1) (v:=?_) rfl (Or.inl ⟨by rfl,?_⟩) ?_
 rotate_left
 ·intro Wq hSw
  obtain ⟨q0,q1⟩:=(HQ2.out.below hSw).two
  clear hSw
  go_simp;all_goals (with_reducible rfl)
 try simp only [Act.put,x2,x3,x4,x5,x6,x7]
 refine tk (i:=2) (v:=?_) rfl (Or.inl ⟨by rfl,?_⟩) ?_
 rotate_left;· rintro _ -;go_simp;all_goals (with_reducible rfl)
 try simp only [Act.put,x2,x3,x4,x5,x6,x7]
 refine tk (i:=3) (v:=?_) rfl (Or.inl ⟨by rfl,?_⟩) ?_
 rotate_left
 ·intro Wq hSw
  obtain ⟨k0,k1,k2⟩:=(HV.out.below hSw).three
  clear hSw
  go_simp;all_goals (with_reducible rfl)
 try simp only [Act.put,x2,x3,x4,x5,x6,x7]
 refine tk (i:=4) (v:=?_) rfl (Or.inl ⟨by rfl,?_⟩) ?_
 rotate_left;· rintro _ -;go_simp;all_goals (with_reducible rfl)
 try simp only [Act.put,x2,x3,x4,x5,x6,x7]
 refine tk (i:=5) (v:=?_) rfl (Or.inl ⟨by rfl,?_⟩) ?_
 rotate_left
 ·intro Wq hSw
  obtain ⟨s0,s1⟩:=(HS.out.below hSw).two
  clear hSw
  go_simp;all_goals (with_reducible rfl)
 try simp only [Act.put,x2,x3,x4,x5,x6,x7]
 refine tk (i:=6) (v:=?_) rfl (Or.inl ⟨by rfl,?_⟩) ?_
 rotate_left
 ·intro Wq hSw
  have b1:((a:Int) < (p.length:Int))=True:=eq_true (by omega)
  have d1:(a < p.length)=True:=eq_true (by omega)
  have c1:((0:Int) ≤ (a:Int))=True:=eq_true (by omega)
  clear hSw
  go_simp;all_goals (with_reducible rfl)
 try simp only [Act.put,x2,x3,x4,x5,x6,x7]
 refine tk (i:=7) (v:=?_) rfl (Or.inl ⟨by rfl,?_⟩) ?_
 rotate_left
 ·intro Wq hSw
  obtain ⟨c0,c1⟩:=ptRow_at ((HP.out.below HB.out).below hSw) (i:=a) (by omega) HX.out
  clear hSw
  go_simp;all_goals (with_reducible rfl)
 try simp only [Act.put,x2,x3,x4,x5,x6,x7]
 refine tk (i:=8) (v:=?_) rfl (Or.inl ⟨by rfl,?_⟩) ?_
 rotate_left;· rintro _ -;go_simp;all_goals (with_reducible rfl)
 try simp only [Act.put,x2,x3,x4,x5,x6,x7]
 refine tk (i:=9) (v:=?_) rfl (Or.inl ⟨by rfl,?_⟩) ?_
 rotate_left
 ·intro Wq hSw
  obtain ⟨k0,k1,k2⟩:=(HV.out.below hSw).three
  clear hSw
  go_simp;all_goals (with_reducible rfl)
 try simp only [Act.put,x2,x3,x4,x5,x6,x7]
 refine tk (i:=10) (v:=?_) rfl (Or.inl ⟨by rfl,?_⟩) ?_
 rotate_left;· rintro _ -;go_simp;all_goals (with_reducible rfl)
 try simp only [Act.put,x2,x3,x4,x5,x6,x7]
 refine tk (i:=11) (v:=?_) rfl (Or.inl ⟨by rfl,?_⟩) ?_
 rotate_left
 ·intro Wq hSw
  obtain ⟨s0,s1⟩:=(HS.out.below hSw).two
  clear hSw
  go_simp;all_goals (with_reducible rfl)
 try simp only [Act.put,x2,x3,x4,x5,x6,x7]
 refine tk (i:=12) (v:=?_) rfl (Or.inl ⟨by rfl,?_⟩) ?_
 rotate_left
 ·intro Wq hSw
  have b1:((b:Int) < (p.length:Int))=True:=eq_true (by omega)
  have d1:(b < p.length)=True:=eq_true (by omega)
  have c1:((0:Int) ≤ (b:Int))=True:=eq_true (by omega)
  clear hSw
  go_simp;all_goals (with_reducible rfl)
 try simp only [Act.put,x2,x3,x4,x5,x6,x7]
 refine tk (i:=13) (v:=?_) rfl (Or.inl ⟨by rfl,?_⟩) ?_
 rotate_left
 ·intro Wq hSw
  obtain ⟨c0,c1⟩:=ptRow_at ((HP.out.below HB.out).below hSw) (i:=b) (by omega) HY.out
  clear hSw
  go_simp;all_goals (with_reducible rfl)
 try simp only [Act.put,x2,x3,x4,x5,x6,x7]
 refine r1 (i:=14) rfl (fun K hK=>?_)
 go_simp
 (with_reducible refine (HI.out _).mono ?_)
 rintro e w1 ⟨rfl,hb1⟩
 go_wp2_with fail
 refine hK.out _ _ (bl_trans hHeld hb1) (fun hHeld2=>?_)
 clear hK K hHeld
 have hHeld:=hHeld2
 clear hHeld2
 try simp only [Act.put,x2,x3,x4,x5,x6,x7]
 refine tk (i:=15) (v:=?_) rfl (Or.inl ⟨by rfl,?_⟩) ?_
 rotate_left;· rintro _ -;go_simp;all_goals (with_reducible rfl)
 try simp only [Act.put,x2,x3,x4,x5,x6,x7]
 refine tk (i:=16) (v:=?_) rfl (Or.inl ⟨by rfl,?_⟩) ?_
 rotate_left;· rintro _ -;go_simp;all_goals (with_reducible rfl)
 try simp only [Act.put,x2,x3,x4,x5,x6,x7]
 refine tk (i:=17) (v:=?_) rfl (Or.inl ⟨by rfl,?_⟩) ?_
 rotate_left;· rintro _ -;go_simp;all_goals (with_reducible rfl)
 try simp only [Act.put,x2,x3,x4,x5,x6,x7]
 refine tk (i:=18) (v:=?_) rfl (Or.inl ⟨by rfl,?_⟩) ?_
 rotate_left;· rintro _ -;go_simp;all_goals (with_reducible rfl)
 try simp only [Act.put,x2,x3,x4,x5,x6,x7]
 refine tk (i:=19) (v:=?_) rfl (Or.inl ⟨by rfl,?_⟩) ?_
 rotate_left;· rintro _ -;go_simp;all_goals (with_reducible rfl)
 try simp only [Act.put,x2,x3,x4,x5,x6,x7]
 refine wpAnyH_done (by kernel_rfl) ?_ _
 have HBz:=Lib.hid (bl_trans HB.out hHeld)
 clear hHeld HB HV HQ HQ2 HS HP
 have n0:=HVs.out
 clear HVs
 by_cases z0:z=0
 ·subst z0
  have HD:Hid (r=false):=HR.out
  clear HR n0
  go_wp2_with fail
  go_ret
  exact ⟨by rw [HD.out];rfl,HBz.out⟩
 ·have y1:(z=0)=False:=eq_false z0
  have y2:(z == 0)=false:=beq_eq_false_iff_ne.2 z0
  have y3:(z != 0)=true:=bne_iff_ne.2 z0
  by_cases z1:z=1
  ·subst z1
   have HD:Hid (r=false):=HR.out
   clear HR n0 y1 y2 y3
   go_wp2_with fail
   go_ret
   exact ⟨by rw [HD.out];rfl,HBz.out⟩
  ·have y4:(z=1)=False:=eq_false z1
   have y5:(z == 1)=false:=beq_eq_false_iff_ne.2 z1
   have y6:(z != 1)=true:=bne_iff_ne.2 z1
   have HD:Hid (r=true):=by
    unfold Hid;rw [HR.out];exact decide_eq_true (by omega)
   clear HR n0 z0 z1
   go_wp2_with fail
   go_ret
   exact ⟨by rw [HD.out];rfl,HBz.out⟩
set_option maxHeartbeats 8000000 in
set_option maxRecDepth 100000 in
theorem pas2_l (x y q:Pt) (w:World) (hh h2:Nat) (hx9:Var w hh [.int .i64 x.x,.int .i64 x.y]) (hy9:Var w h2 [.int .i64 y.x,.int .i64 y.y]) :
 Calls Tryz.prog 67 #[.agg #[.int .i64 q.x,.int .i64 q.y],.pointer (some ⟨hh,0,none⟩),.pointer (some ⟨h2,0,none⟩)] w (Gives (.bool (insideB x y q)) w):=by
 have HI:=Lib.hid (fun W=>inside_l x y q W)
 generalize insideB x y q=r at *
 go_enter Tryz.func67,Tryz.ntmps67
 go_upto_region 1 with (fail)
 have HQ:=Lib.hid (hx9.below (bl_one w (.cells #[.int .i64 q.x,.int .i64 q.y] 64)))
 have HQ2:=Lib.hid (hy9.below (bl_one w (.cells #[.int .i64 q.x,.int .i64 q.y] 64)))
 have HS:=Lib.hid (var2_new w (.int .i64 q.x) (.int .i64 q.y) 64 w.heap.size rfl)
 have HB:=Lib.hid (bl_one w (.cells #[.int .i64 q.x,.int .i64 q.y] 64))
 generalize w.alloc (.cells #[.int .i64 q.x,.int .i64 q.y] 64)=W1 at *
 clear hx9 hy9
 obtain ⟨a0,a1⟩:=HQ.out.two
 obtain ⟨b0,b1⟩:=HQ2.out.two
 obtain ⟨s0,s1⟩:=HS.out.two
 go_wp2_with fail
 (with_reducible refine (HI.out _).mono ?_);rintro e w2 ⟨rfl,hb2⟩
 replace HB:=Lib.hid (bl_trans HB.out hb2)
 clear hb2
 go_wp2_with fail
 go_ret
 exact ⟨rfl,HB.out⟩
end Go.Proofs.YtpjaefcmaiimlaaGreat
