/-
  Layer 10: the law's square, known, many.
-/
import Derived.Test.YtpjaefcmaiimlaaGreatVMems
import Derived.Test.YtpjaefcmaiimlaaGreatVFirsts
set_option linter.unusedVariables false
set_option linter.unusedSimpArgs false
set_option linter.deprecated false
namespace Go.Proofs.YtpjaefcmaiimlaaGreat
open Go.RowKit

def sq10P:List Pt:=[⟨0,0⟩,⟨4,0⟩,⟨4,4⟩,⟨0,4⟩]
def sq10L:List Pt:=[⟨0,1⟩,⟨1,2⟩,⟨2,3⟩,⟨3,0⟩]
def sq10I:List Pt:=[⟨0,2⟩]
set_option maxHeartbeats 8000000 in
set_option maxRecDepth 100000 in
theorem square10_l (w:World):Calls Tryz.prog 16 #[] w fun e W=>∃ u v x,e=.returned (.agg #[.slice (some ⟨u,0,none⟩) 4 4,.slice (some ⟨v,0,none⟩) 4 4,.slice (some ⟨x,0,none⟩) 1 1])∧Own3 w (.slice (some ⟨u,0,none⟩) 4 4) (.slice (some ⟨v,0,none⟩) 4 4) (.slice (some ⟨x,0,none⟩) 1 1) sq10P sq10L sq10I W:=by
 go_enter Tryz.func16,Tryz.ntmps16
 go_upto_region 1 with (fail)
 have HF:=Lib.hid (var3_new w (.slice none 0 0) (.slice none 0 0) (.slice none 0 0) 25 w.heap.size rfl)
 have HB:=Lib.hid (bl_one w (.cells #[.slice none 0 0,.slice none 0 0,.slice none 0 0] 25))
 generalize w.alloc (.cells #[.slice none 0 0,.slice none 0 0,.slice none 0 0] 25)=W1 at *
 have hs1:=HF.out.lt
 have o0:Op 64 W1 (.slice (some ⟨W1.heap.size,0,none⟩) 4 4) sq10P (W1.alloc (.cells #[.int .i64 0,.int .i64 0,.int .i64 4,.int .i64 0,.int .i64 4,.int .i64 4,.int .i64 0,.int .i64 4] 64)):=op_new10 64 W1 sq10P _ rfl (by decide)
 have o1:Op 59 (W1.alloc (.cells #[.int .i64 0,.int .i64 0,.int .i64 4,.int .i64 0,.int .i64 4,.int .i64 4,.int .i64 0,.int .i64 4] 64)) (.slice (some ⟨W1.heap.size + 1,0,none⟩) 4 4) sq10L ((W1.alloc (.cells #[.int .i64 0,.int .i64 0,.int .i64 4,.int .i64 0,.int .i64 4,.int .i64 4,.int .i64 0,.int .i64 4] 64)).alloc (.cells #[.int .i64 0,.int .i64 1,.int .i64 1,.int .i64 2,.int .i64 2,.int .i64 3,.int .i64 3,.int .i64 0] 59)):=by
  have:=op_new10 59 (W1.alloc (.cells #[.int .i64 0,.int .i64 0,.int .i64 4,.int .i64 0,.int .i64 4,.int .i64 4,.int .i64 0,.int .i64 4] 64)) sq10L #[.int .i64 0,.int .i64 1,.int .i64 1,.int .i64 2,.int .i64 2,.int .i64 3,.int .i64 3,.int .i64 0] rfl (by decide)
  rw [show (W1.alloc (.cells #[.int .i64 0,.int .i64 0,.int .i64 4,.int .i64 0,.int .i64 4,.int .i64 4,.int .i64 0,.int .i64 4] 64)).heap.size=W1.heap.size + 1 by simp] at this
  exact this
 have o2:Op 59 ((W1.alloc (.cells #[.int .i64 0,.int .i64 0,.int .i64 4,.int .i64 0,.int .i64 4,.int .i64 4,.int .i64 0,.int .i64 4] 64)).alloc (.cells #[.int .i64 0,.int .i64 1,.int .i64 1,.int .i64 2,.int .i64 2,.int .i64 3,.int .i64 3,.int .i64 0] 59)) (.slice (some ⟨W1.heap.size + 1 + 1,0,none⟩) 1 1) sq10I (((W1.alloc (.cells #[.int .i64 0,.int .i64 0,.int .i64 4,.int .i64 0,.int .i64 4,.int .i64 4,.int .i64 0,.int .i64 4] 64)).alloc (.cells #[.int .i64 0,.int .i64 1,.int .i64 1,.int .i64 2,.int .i64 2,.int .i64 3,.int .i64 3,.int .i64 0] 59)).alloc (.cells #[.int .i64 0,.int .i64 2] 59)):=by
  have:=op_new10 59 ((W1.alloc (.cells #[.int .i64 0,.int .i64 0,.int .i64 4,.int .i64 0,.int .i64 4,.int .i64 4,.int .i64 0,.int .i64 4] 64)).alloc (.cells #[.int .i64 0,.int .i64 1,.int .i64 1,.int .i64 2,.int .i64 2,.int .i64 3,.int .i64 3,.int .i64 0] 59)) sq10I #[.int .i64 0,.int .i64 2] rfl (by decide)
  rw [show ((W1.alloc (.cells #[.int .i64 0,.int .i64 0,.int .i64 4,.int .i64 0,.int .i64 4,.int .i64 4,.int .i64 0,.int .i64 4] 64)).alloc (.cells #[.int .i64 0,.int .i64 1,.int .i64 1,.int .i64 2,.int .i64 2,.int .i64 3,.int .i64 3,.int .i64 0] 59)).heap.size=W1.heap.size + 1 + 1 by simp] at this
  exact this
 have HO:Hid (Own3 w (.slice (some ⟨W1.heap.size,0,none⟩) 4 4) (.slice (some ⟨W1.heap.size + 1,0,none⟩) 4 4) (.slice (some ⟨W1.heap.size + 1 + 1,0,none⟩) 1 1) sq10P sq10L sq10I (((W1.alloc (.cells #[.int .i64 0,.int .i64 0,.int .i64 4,.int .i64 0,.int .i64 4,.int .i64 4,.int .i64 0,.int .i64 4] 64)).alloc (.cells #[.int .i64 0,.int .i64 1,.int .i64 1,.int .i64 2,.int .i64 2,.int .i64 3,.int .i64 3,.int .i64 0] 59)).alloc (.cells #[.int .i64 0,.int .i64 2] 59))):=
  ⟨((o0.base HB.out).alloc _).alloc _,(o1.base (bl_trans HB.out (bl_one _ _))).alloc _,o2.base (bl_trans (bl_trans HB.out (bl_one _ _)) (bl_one _ _)),fun g e k=>by have e9:=Option.some.inj e;have k9:=Option.some.inj k;dsimp only at e9 k9;omega,fun g e k=>by have e9:=Option.some.inj e;have k9:=Option.some.inj k;dsimp only at e9 k9;omega,fun g e k=>by have e9:=Option.some.inj e;have k9:=Option.some.inj k;dsimp only at e9 k9;omega⟩
 have HF2:=Lib.hid (((HF.out.below (bl_one W1 (.cells #[.int .i64 0,.int .i64 0,.int .i64 4,.int .i64 0,.int .i64 4,.int .i64 4,.int .i64 0,.int .i64 4] 64))).below (bl_one _ (.cells #[.int .i64 0,.int .i64 1,.int .i64 1,.int .i64 2,.int .i64 2,.int .i64 3,.int .i64 3,.int .i64 0] 59))).below (bl_one _ (.cells #[.int .i64 0,.int .i64 2] 59)))
 obtain ⟨d0,d1,d2⟩:=HF2.out.three
 obtain ⟨f0,f1,f2⟩:=HF2.out.free3
 have HZ:=Lib.hid (((HO.out.set (g:=w.heap.size) (Nat.le_refl _) (fun e=>by have e9:=Option.some.inj e;dsimp only at e9;omega) (fun e=>by have e9:=Option.some.inj e;dsimp only at e9;omega) (fun e=>by have e9:=Option.some.inj e;dsimp only at e9;omega) 0 (.slice (some ⟨W1.heap.size,0,none⟩) 4 4)).set (Nat.le_refl _) (fun e=>by have e9:=Option.some.inj e;dsimp only at e9;omega) (fun e=>by have e9:=Option.some.inj e;dsimp only at e9;omega) (fun e=>by have e9:=Option.some.inj e;dsimp only at e9;omega) 1 (.slice (some ⟨W1.heap.size + 1,0,none⟩) 4 4)).set (Nat.le_refl _) (fun e=>by have e9:=Option.some.inj e;dsimp only at e9;omega) (fun e=>by have e9:=Option.some.inj e;dsimp only at e9;omega) (fun e=>by have e9:=Option.some.inj e;dsimp only at e9;omega) 2 (.slice (some ⟨W1.heap.size + 1 + 1,0,none⟩) 1 1))
 clear o0 o1 o2 HO HF
 go_wp2_with fail
 obtain ⟨e0,e1,e2⟩:=(HF2.out.set3 (.slice (some ⟨W1.heap.size,0,none⟩) 4 4) (.slice (some ⟨W1.heap.size + 1,0,none⟩) 4 4) (.slice (some ⟨W1.heap.size + 1 + 1,0,none⟩) 1 1)).three
 refine bodyPost_ret (v:=.agg #[.slice (some ⟨W1.heap.size,0,none⟩) 4 4,.slice (some ⟨W1.heap.size + 1,0,none⟩) 4 4,.slice (some ⟨W1.heap.size + 1 + 1,0,none⟩) 1 1]) (by simp [results,Tryz.results16,go_sem,e0,e1,e2];done) rfl ⟨_,_,_,rfl,HZ.out⟩
end Go.Proofs.YtpjaefcmaiimlaaGreat

/-
  Layer 10: what the chapter's example fixes.
-/
namespace Go.Proofs.YtpjaefcmaiimlaaGreat
open Go.RowKit

set_option maxRecDepth 100000 in
theorem kn1:firstF sq10P sq10L sq10I=⟨0,0,0⟩∧firstE sq10P sq10L sq10I=0:=by decide +kernel
set_option maxRecDepth 100000 in
theorem kn2:firstF sq10P (sq10L ++ sq10I) []=⟨5,0,0⟩∧firstE sq10P (sq10L ++ sq10I) []=0:=by decide +kernel
set_option maxRecDepth 100000 in
theorem kn3:(firstF sq10P (sq10L.drop 1) sq10I).k=5∧firstE sq10P (sq10L.drop 1) sq10I=0:=by decide +kernel
set_option maxRecDepth 100000 in
theorem kn4:(loopsL sq10P sq10L sq10I).length=1∧loopsE sq10P sq10L sq10I=0:=by decide +kernel
set_option maxRecDepth 100000 in
theorem kn5:insideF sq10P sq10L sq10I 0 1=true∧insideF sq10P sq10L sq10I 1 3=false:=by decide +kernel
theorem eqFl10 (a:Int) (w:World):(Op.equalIn 10000 30 (.agg #[.int .i64 a,.int .i64 0,.int .i64 0]) (.agg #[.int .i64 a,.int .i64 0,.int .i64 0])).run Tryz.prog w=.ok true w:=by
 have hS:Tryz.prog.underlying 30=some (.struct (Tryz.prog.fieldsOf 30)):=by kernel_rfl
 have hp:Tryz.prog.stoodInHeld 30=false:=by kernel_rfl
 have u4:=Tryz.underlying3
 rw [show (10000:Nat)=9999 + 1 from rfl,run_equalIn_agg w 9999 30 _ _ hS hp]
 simp only [Program.fieldsOf,Tryz.underlying30]
 go_simp
end Go.Proofs.YtpjaefcmaiimlaaGreat

/-
  Layer 10: the law's known.
-/
namespace Go.Proofs.YtpjaefcmaiimlaaGreat
open Go.RowKit

theorem Own3.pol' {W0 W:World} {au av ax:Option Addr} {n m k cu cv cx:Nat} {p l i:List Pt} (h:Own3 W0 (.slice au n cu) (.slice av m cv) (.slice ax k cx) p l i W) (hp:p.length ≤ 10000) (hl:l.length ≤ 10000) (hi:i.length ≤ 10000):Pol W au av ax cu cv cx p l i∧n=p.length∧m=l.length∧k=i.length:=by
 obtain ⟨ap,al,ai,cp,cl,ci,e0,e1,e2,hP⟩:=h.pol hp hl hi
 cases e0
 cases e1
 cases e2
 exact ⟨hP,rfl,rfl,rfl⟩
theorem ff1 (ap al ai:Option Addr) (W:World) (h:Pol W ap al ai 4 4 1 sq10P sq10L sq10I):Calls Tryz.prog 8 #[.agg #[.slice ap 4 4,.slice al 4 4,.slice ai 1 1]] W (Gives (.tuple #[.agg #[.int .i64 0,.int .i64 0,.int .i64 0],.int .i64 0]) W):=by
 have:=first10_l sq10P sq10L sq10I ap al ai 4 4 1 W h
 rw [kn1.1,kn1.2] at this
 exact this
theorem ff2 (ap al:Option Addr) (cl:Nat) (W:World) (h:Pol W ap al none 4 cl 0 sq10P (sq10L ++ sq10I) []):Calls Tryz.prog 8 #[.agg #[.slice ap 4 4,.slice al 5 cl,.slice none 0 0]] W (Gives (.tuple #[.agg #[.int .i64 5,.int .i64 0,.int .i64 0],.int .i64 0]) W):=by
 have:=first10_l sq10P (sq10L ++ sq10I) [] ap al none 4 cl 0 W h
 rw [kn2.1,kn2.2] at this
 exact this
theorem ff3 (ap al ai:Option Addr) (W:World) (h:Pol W ap al ai 4 3 1 sq10P (sq10L.drop 1) sq10I):Calls Tryz.prog 8 #[.agg #[.slice ap 4 4,.slice al 3 3,.slice ai 1 1]] W fun e W'=>∃ a b:Int,e=.returned (.tuple #[.agg #[.int .i64 5,.int .i64 a,.int .i64 b],.int .i64 0])∧Below W.heap.size W W':=by
 have:=first10_l sq10P (sq10L.drop 1) sq10I ap al ai 4 3 1 W h
 rw [kn3.1,kn3.2] at this
 exact this.mono fun e W' hg=>⟨_,_,hg.1,hg.2⟩
theorem ff4 (ap al ai:Option Addr) (W:World) (h:Pol W ap al ai 4 4 1 sq10P sq10L sq10I):Calls Tryz.prog 11 #[.agg #[.slice ap 4 4,.slice al 4 4,.slice ai 1 1]] W fun e W'=>∃ ad cap,e=.returned (.tuple #[.slice ad 1 cap,.int .i64 0])∧Below W.heap.size W W':=by
 have:=loops10_l sq10P sq10L sq10I ap al ai 4 4 1 W h
 rw [kn4.1,kn4.2] at this
 exact this.mono fun e W' hg=>by
  obtain ⟨ad,cap,h1,-,-,-,h2⟩:=hg
  exact ⟨ad,cap,h1,h2⟩
theorem ff5 (ap al ai:Option Addr) (W:World) (h:Pol W ap al ai 4 4 1 sq10P sq10L sq10I):Calls Tryz.prog 14 #[.agg #[.slice ap 4 4,.slice al 4 4,.slice ai 1 1],.int .i64 0,.int .i64 1] W (Gives (.bool true) W):=by
 have:=inside10_l sq10P sq10L sq10I 0 1 ap al ai 4 4 1 W h
 rw [kn5.1] at this
 exact this
theorem ff6 (ap al ai:Option Addr) (W:World) (h:Pol W ap al ai 4 4 1 sq10P sq10L sq10I):Calls Tryz.prog 14 #[.agg #[.slice ap 4 4,.slice al 4 4,.slice ai 1 1],.int .i64 1,.int .i64 3] W (Gives (.bool false) W):=by
 have:=inside10_l sq10P sq10L sq10I 1 3 ap al ai 4 4 1 W h
 rw [kn5.2] at this
 exact this

set_option maxHeartbeats 16000000 in
set_option maxRecDepth 100000 in
theorem known10_l (w:World):Calls Tryz.prog 6 #[] w (Gives (.bool true) w):=by
 have HS:=Lib.hid (fun W=>square10_l W)
 go_enter Tryz.func6,Tryz.ntmps6
 go_wp2_with fail
 (with_reducible refine (HS.out _).mono ?_);rintro e w1 ⟨u1,v1,x1,rfl,hO1⟩
 have HB:=Lib.hid hO1.hb
 have HP:=Lib.hid (hO1.pol' (by decide) (by decide) (by decide)).1
 clear hO1
 go_upto_region 2 with (fail)
 have HV1:=Lib.hid (var3_new w1 (.slice (some ⟨u1,0,none⟩) 4 4) (.slice (some ⟨v1,0,none⟩) 4 4) (.slice (some ⟨x1,0,none⟩) 1 1) 25 w1.heap.size rfl)
 replace HB:=Lib.hid (bl_trans HB.out (bl_one w1 (.cells #[.slice (some ⟨u1,0,none⟩) 4 4,.slice (some ⟨v1,0,none⟩) 4 4,.slice (some ⟨x1,0,none⟩) 1 1] 25)))
 replace HP:=Lib.hid (HP.out.below (bl_one w1 (.cells #[.slice (some ⟨u1,0,none⟩) 4 4,.slice (some ⟨v1,0,none⟩) 4 4,.slice (some ⟨x1,0,none⟩) 1 1] 25)))
 generalize w1.alloc (.cells #[.slice (some ⟨u1,0,none⟩) 4 4,.slice (some ⟨v1,0,none⟩) 4 4,.slice (some ⟨x1,0,none⟩) 1 1] 25)=W1 at *
 obtain ⟨k0,k1,k2⟩:=HV1.out.three
 go_wp2_with fail
 (with_reducible refine (ff1 _ _ _ _ HP.out).mono ?_);rintro e w2 ⟨rfl,hb2⟩
 have HBp:=Lib.hid hb2
 clear hb2 k0 k1 k2
 go_upto_region 3 with (fail)
 have HF2:=Lib.hid (var3_new w2 (.int .i64 0) (.int .i64 0) (.int .i64 0) 30 w2.heap.size rfl)
 replace HBp:=Lib.hid (bl_trans HBp.out (bl_one w2 (.cells #[.int .i64 0,.int .i64 0,.int .i64 0] 30)))
 generalize w2.alloc (.cells #[.int .i64 0,.int .i64 0,.int .i64 0] 30)=W3 at *
 go_wp2_with fail
 (with_reducible refine (HS.out _).mono ?_);rintro e w4 ⟨u2,v2,x2,rfl,hO2⟩
 have HO2:=Lib.hid hO2
 clear hO2
 go_upto_region 4 with (fail)
 have HV4:=Lib.hid (var3_new w4 (.slice (some ⟨u2,0,none⟩) 4 4) (.slice (some ⟨v2,0,none⟩) 4 4) (.slice (some ⟨x2,0,none⟩) 1 1) 25 w4.heap.size rfl)
 have HN0:=Lib.hid (HO2.out.o0.ne10 (Nat.le_refl _))
 have HN1:=Lib.hid (HO2.out.o1.ne10 (Nat.le_refl _))
 have HN2:=Lib.hid (HO2.out.o2.ne10 (Nat.le_refl _))
 have hsz:=HO2.out.hb.size
 replace HO2:=Lib.hid (HO2.out.below (bl_one w4 (.cells #[.slice (some ⟨u2,0,none⟩) 4 4,.slice (some ⟨v2,0,none⟩) 4 4,.slice (some ⟨x2,0,none⟩) 1 1] 25)))
 generalize w4.alloc (.cells #[.slice (some ⟨u2,0,none⟩) 4 4,.slice (some ⟨v2,0,none⟩) 4 4,.slice (some ⟨x2,0,none⟩) 1 1] 25)=W5 at *
 obtain ⟨k0,k1,k2⟩:=HV4.out.three
 obtain ⟨f0,f1,f2⟩:=HV4.out.free3
 have HPq:=Lib.hid (HO2.out.pol' (by decide) (by decide) (by decide)).1
 go_wp2_with (at_builtin;refine app_pts10 rfl Tryz.underlying23 info_eseg10 _ _ rfl rfl HO2.out.o1 rfl (L:=sq10I) rfl HPq.out.ii HPq.out.nilI ?z1 ?_)
 case z1=>decide
 intro v W6 hO hg hloc
 have hX:∀ k,(Value.slice (some ⟨v2,0,none⟩) 4 4).ownBlock=some k → k ≠ w4.heap.size:=fun k e h=>HN1.out (by rw [e,h])
 have hv6:=HV4.out.grown10 hg hX
 have hne:v.ownBlock ≠ some w4.heap.size:=fun e=>by
  rcases hloc with h | h <;> rw [h] at e
  ·exact HN1.out e
  ·have e9:=Option.some.inj e
   have:=HV4.out.lt
   omega
 have hb1:∀ k,(Value.slice (some ⟨v2,0,none⟩) 4 4).ownBlock=some k → W3.heap.size ≤ k:=fun k e=>(HO2.out.o1.own.lt k e).1
 have h0:=HO2.out.o0.other10 hg (fun g e k=>HO2.out.d01 g k e) hb1
 have h2:=HO2.out.o2.other10 hg (fun g e k=>HO2.out.d12 g e k) hb1
 have had:Apart10 (.slice (some ⟨u2,0,none⟩) 4 4) v:=fun g e k=>by
  rcases hloc with h | h <;> rw [h] at k
  ·exact HO2.out.d01 g e k
  ·have e9:=Option.some.inj k
   have:=(HO2.out.o0.own.lt g e).2
   omega
 have HQ0:=Lib.hid (h0.set10 HN0.out hsz 1 v)
 have HQ1:=Lib.hid (hO.set10 hne hsz 1 v)
 have HV6:=Lib.hid hv6
 have HNe:=Lib.hid hne
 obtain ⟨av,cv,ev,-,-,-⟩:=hO.slice
 subst ev
 clear hX hne hb1 h0 h2 had hO hg hloc hv6 k0 k1 k2 f0 f1 f2 HO2 HPq HV4
 have HV7:Hid (Var (W6.setCell ⟨w4.heap.size,1,none⟩ (.slice av (sq10L ++ sq10I).length cv)) w4.heap.size [.slice (some ⟨u2,0,none⟩) 4 4,.slice av (sq10L ++ sq10I).length cv,.slice (some ⟨x2,0,none⟩) 1 1]):=HV6.out.setAt10 (k:=1) (by simp) _
 have h5:(sq10L ++ sq10I).length=5:=rfl
 rw [h5] at HV7 HQ0 HQ1 HNe
 rw [h5]
 clear h5
 obtain ⟨k0,k1,k2⟩:=HV6.out.three
 obtain ⟨f0,f1,f2⟩:=HV6.out.free3
 go_upto_region 5 with (fail)
 clear k0 k1 k2 f0 f1 f2 HV6
 generalize W6.setCell ⟨w4.heap.size,1,none⟩ (.slice av 5 cv)=W7 at *
 obtain ⟨k0,k1,k2⟩:=HV7.out.three
 obtain ⟨f0,f1,f2⟩:=HV7.out.free3
 go_upto_region 6 with (fail)
 replace HQ0:=Lib.hid (HQ0.out.set10 HN0.out hsz 2 (.slice none 0 0))
 replace HQ1:=Lib.hid (HQ1.out.set10 HNe.out hsz 2 (.slice none 0 0))
 have HV8:Hid (Var (W7.setCell ⟨w4.heap.size,2,none⟩ (.slice none 0 0)) w4.heap.size [.slice (some ⟨u2,0,none⟩) 4 4,.slice av 5 cv,.slice none 0 0]):=HV7.out.setAt10 (k:=2) (by simp) _
 clear k0 k1 k2 f0 f1 f2 HV7
 generalize W7.setCell ⟨w4.heap.size,2,none⟩ (.slice none 0 0)=W8 at *
 have HP8:Hid (Pol W8 (some ⟨u2,0,none⟩) av none 4 cv 0 sq10P (sq10L ++ sq10I) []):=by
  obtain ⟨a0,c0,e0,p0,r0,n0⟩:=HQ0.out.slice
  obtain ⟨a1,c1,e1,p1,r1,n1⟩:=HQ1.out.slice
  cases e0
  cases e1
  exact ⟨r0,r1,ptRow_nil _ _,p0,p1,Nat.le_refl _,n0,n1,fun _=>rfl,by decide,by decide,by decide⟩
 replace HBp:=Lib.hid (bl_trans HBp.out HQ0.out.hb)
 replace HF2:=Lib.hid (HF2.out.below HQ0.out.hb)
 clear HQ0 HQ1 HN0 HN1 HN2 HNe hsz
 obtain ⟨k0,k1,k2⟩:=HV8.out.three
 go_wp2_with fail
 (with_reducible refine (ff2 _ _ _ _ HP8.out).mono ?_);rintro e w9 ⟨rfl,hb9⟩
 replace HBp:=Lib.hid (bl_trans HBp.out hb9)
 replace HF2:=Lib.hid (HF2.out.below hb9)
 clear hb9 k0 k1 k2 HV8 HP8
 go_upto_region 7 with (fail)
 have HF5:=Lib.hid (var3_new w9 (.int .i64 5) (.int .i64 0) (.int .i64 0) 30 w9.heap.size rfl)
 replace HBp:=Lib.hid (bl_trans HBp.out (bl_one w9 (.cells #[.int .i64 5,.int .i64 0,.int .i64 0] 30)))
 replace HF2:=Lib.hid (HF2.out.below (bl_one w9 (.cells #[.int .i64 5,.int .i64 0,.int .i64 0] 30)))
 generalize w9.alloc (.cells #[.int .i64 5,.int .i64 0,.int .i64 0] 30)=WA at *
 go_wp2_with fail
 (with_reducible refine (HS.out _).mono ?_);rintro e wb ⟨u3,v3,x3,rfl,hO3⟩
 have HO3:=Lib.hid hO3
 replace HBp:=Lib.hid (bl_trans HBp.out hO3.hb)
 replace HF2:=Lib.hid (HF2.out.below hO3.hb)
 replace HF5:=Lib.hid (HF5.out.below hO3.hb)
 have HPr:=Lib.hid (hO3.pol' (by decide) (by decide) (by decide)).1
 clear hO3 HO3
 go_upto_region 8 with (fail)
 have HVb:=Lib.hid (var3_new wb (.slice (some ⟨u3,0,none⟩) 4 4) (.slice (some ⟨v3,0,none⟩) 4 4) (.slice (some ⟨x3,0,none⟩) 1 1) 25 wb.heap.size rfl)
 have HBb:=Lib.hid (bl_one wb (.cells #[.slice (some ⟨u3,0,none⟩) 4 4,.slice (some ⟨v3,0,none⟩) 4 4,.slice (some ⟨x3,0,none⟩) 1 1] 25))
 generalize wb.alloc (.cells #[.slice (some ⟨u3,0,none⟩) 4 4,.slice (some ⟨v3,0,none⟩) 4 4,.slice (some ⟨x3,0,none⟩) 1 1] 25)=WC at *
 obtain ⟨k0,k1,k2⟩:=HVb.out.three
 obtain ⟨f0,f1,f2⟩:=HVb.out.free3
 go_upto_region 9 with (fail)
 have HBd:=Lib.hid (bl_set HBb.out (p:=⟨wb.heap.size,1,none⟩) (Nat.le_refl _) (.slice (some ⟨v3,2,none⟩) 3 3))
 have HVd:Hid (Var (WC.setCell ⟨wb.heap.size,1,none⟩ (.slice (some ⟨v3,2,none⟩) 3 3)) wb.heap.size [.slice (some ⟨u3,0,none⟩) 4 4,.slice (some ⟨v3,2,none⟩) 3 3,.slice (some ⟨x3,0,none⟩) 1 1]):=HVb.out.setAt10 (k:=1) (by simp) _
 clear k0 k1 k2 f0 f1 f2 HVb HBb
 generalize WC.setCell ⟨wb.heap.size,1,none⟩ (.slice (some ⟨v3,2,none⟩) 3 3)=WD at *
 have HPd:Hid (Pol WD (some ⟨u3,0,none⟩) (some ⟨v3,2,none⟩) (some ⟨x3,0,none⟩) 4 3 1 sq10P (sq10L.drop 1) sq10I):=by
  have h:=HPr.out.below HBd.out
  exact ⟨h.pp,h.ll.drop 1 (fun g o e _=>by cases e;rfl),h.ii,h.capP,by decide,h.capI,h.nilP,(fun e=>by cases e),h.nilI,h.lenP,by decide,h.lenI⟩
 replace HBp:=Lib.hid (bl_trans HBp.out HBd.out)
 replace HF2:=Lib.hid (HF2.out.below HBd.out)
 replace HF5:=Lib.hid (HF5.out.below HBd.out)
 clear HBd HPr
 obtain ⟨k0,k1,k2⟩:=HVd.out.three
 go_wp2_with fail
 (with_reducible refine (ff3 _ _ _ _ HPd.out).mono ?_);rintro e we ⟨a9,b9,rfl,hb9⟩
 replace HBp:=Lib.hid (bl_trans HBp.out hb9)
 replace HF2:=Lib.hid (HF2.out.below hb9)
 replace HF5:=Lib.hid (HF5.out.below hb9)
 clear hb9 k0 k1 k2 HVd HPd
 go_upto_region 10 with (fail)
 have HF8:=Lib.hid (var3_new we (.int .i64 5) (.int .i64 a9) (.int .i64 b9) 30 we.heap.size rfl)
 have HBe:=Lib.hid (bl_one we (.cells #[.int .i64 5,.int .i64 a9,.int .i64 b9] 30))
 generalize we.alloc (.cells #[.int .i64 5,.int .i64 a9,.int .i64 b9] 30)=WF at *
 replace HBp:=Lib.hid (bl_trans HBp.out HBe.out)
 replace HF2:=Lib.hid (HF2.out.below HBe.out)
 replace HF5:=Lib.hid (HF5.out.below HBe.out)
 clear HBe
 obtain ⟨k0,k1,k2⟩:=(HV1.out.below HBp.out).three
 go_wp2_with fail
 (with_reducible refine (ff4 _ _ _ _ (HP.out.below HBp.out)).mono ?_);rintro e wg ⟨ad,cap,rfl,hb9⟩
 replace HBp:=Lib.hid (bl_trans HBp.out hb9)
 replace HF2:=Lib.hid (HF2.out.below hb9)
 replace HF5:=Lib.hid (HF5.out.below hb9)
 replace HF8:=Lib.hid (HF8.out.below hb9)
 clear hb9 k0 k1 k2
 obtain ⟨k0,k1,k2⟩:=(HV1.out.below HBp.out).three
 obtain ⟨a0,a1,a2⟩:=HF2.out.three
 obtain ⟨b0,b1,b2⟩:=HF5.out.three
 obtain ⟨c0,c1,c2⟩:=HF8.out.three
 have q0:=fun W=>eqFl10 0 W
 have q5:=fun W=>eqFl10 5 W
 go_wp2_with fail
 (with_reducible refine (ff5 _ _ _ _ (HP.out.below HBp.out)).mono ?_);rintro e wh ⟨rfl,hb9⟩
 replace HBp:=Lib.hid (bl_trans HBp.out hb9)
 clear hb9 k0 k1 k2 a0 a1 a2 b0 b1 b2 c0 c1 c2 q0 q5
 obtain ⟨k0,k1,k2⟩:=(HV1.out.below HBp.out).three
 go_wp2_with fail
 (with_reducible refine (ff6 _ _ _ _ (HP.out.below HBp.out)).mono ?_);rintro e wi ⟨rfl,hb9⟩
 have HBz:=Lib.hid (bl_trans HB.out (bl_trans HBp.out hb9))
 clear hb9 k0 k1 k2
 go_wp2_with fail
 go_ret
 exact ⟨rfl,HBz.out⟩
end Go.Proofs.YtpjaefcmaiimlaaGreat
