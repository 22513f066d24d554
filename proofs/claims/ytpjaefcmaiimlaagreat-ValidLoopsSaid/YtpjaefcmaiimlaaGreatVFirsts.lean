/-
  Layer 10: valid.First.
-/
import Derived.Test.YtpjaefcmaiimlaaGreatVChks
import Derived.Test.YtpjaefcmaiimlaaGreatVStrays
import Derived.Laws.EntriesVeiled
import Derived.Test.YtpjaefcmaiimlaaGreatVPasses
set_option linter.unusedVariables false
set_option linter.unusedSimpArgs false
set_option linter.deprecated false
namespace Go.Proofs.YtpjaefcmaiimlaaGreat
open Go.RowKit

theorem flTo_is {p l i:List Pt} {j:Nat} {f:Fl} (h0:(flTo p l i j).k=0) (hj:j < 8) (e:chk p l i j=f) (hk:f.k ≠ 0):flTo p l i 8=f:=by
 have h1:=flTo_step h0
 rw [e] at h1
 rw [flTo_stay (j:=j + 1) (by rw [h1];exact hk) 8 (by omega),h1]
theorem flTo_on {p l i:List Pt} {j:Nat} {f:Fl} (h0:(flTo p l i j).k=0) (e:chk p l i j=f) (hk:f.k=0):(flTo p l i (j + 1)).k=0:=by
 rw [flTo_step h0,e];exact hk
theorem fidx0 (w:World):(Instr.index 48 (.agg #[.func (.func 18) #[] #[],.func (.func 19) #[] #[],.func (.func 20) #[] #[],.func (.func 21) #[] #[],.func (.func 22) #[] #[],.func (.func 23) #[] #[],.func (.func 24) #[] #[],.func (.func 25) #[] #[]]) (.int .i64 0)).run Tryz.prog w=.ok (.func (.func 18) #[] #[]) w:=by kernel_rfl
theorem fidx1 (w:World):(Instr.index 48 (.agg #[.func (.func 18) #[] #[],.func (.func 19) #[] #[],.func (.func 20) #[] #[],.func (.func 21) #[] #[],.func (.func 22) #[] #[],.func (.func 23) #[] #[],.func (.func 24) #[] #[],.func (.func 25) #[] #[]]) (.int .i64 1)).run Tryz.prog w=.ok (.func (.func 19) #[] #[]) w:=by kernel_rfl
theorem fidx2 (w:World):(Instr.index 48 (.agg #[.func (.func 18) #[] #[],.func (.func 19) #[] #[],.func (.func 20) #[] #[],.func (.func 21) #[] #[],.func (.func 22) #[] #[],.func (.func 23) #[] #[],.func (.func 24) #[] #[],.func (.func 25) #[] #[]]) (.int .i64 2)).run Tryz.prog w=.ok (.func (.func 20) #[] #[]) w:=by kernel_rfl
theorem fidx3 (w:World):(Instr.index 48 (.agg #[.func (.func 18) #[] #[],.func (.func 19) #[] #[],.func (.func 20) #[] #[],.func (.func 21) #[] #[],.func (.func 22) #[] #[],.func (.func 23) #[] #[],.func (.func 24) #[] #[],.func (.func 25) #[] #[]]) (.int .i64 3)).run Tryz.prog w=.ok (.func (.func 21) #[] #[]) w:=by kernel_rfl
theorem fidx4 (w:World):(Instr.index 48 (.agg #[.func (.func 18) #[] #[],.func (.func 19) #[] #[],.func (.func 20) #[] #[],.func (.func 21) #[] #[],.func (.func 22) #[] #[],.func (.func 23) #[] #[],.func (.func 24) #[] #[],.func (.func 25) #[] #[]]) (.int .i64 4)).run Tryz.prog w=.ok (.func (.func 22) #[] #[]) w:=by kernel_rfl
theorem fidx5 (w:World):(Instr.index 48 (.agg #[.func (.func 18) #[] #[],.func (.func 19) #[] #[],.func (.func 20) #[] #[],.func (.func 21) #[] #[],.func (.func 22) #[] #[],.func (.func 23) #[] #[],.func (.func 24) #[] #[],.func (.func 25) #[] #[]]) (.int .i64 5)).run Tryz.prog w=.ok (.func (.func 23) #[] #[]) w:=by kernel_rfl
theorem fidx6 (w:World):(Instr.index 48 (.agg #[.func (.func 18) #[] #[],.func (.func 19) #[] #[],.func (.func 20) #[] #[],.func (.func 21) #[] #[],.func (.func 22) #[] #[],.func (.func 23) #[] #[],.func (.func 24) #[] #[],.func (.func 25) #[] #[]]) (.int .i64 6)).run Tryz.prog w=.ok (.func (.func 24) #[] #[]) w:=by kernel_rfl
theorem fidx7 (w:World):(Instr.index 48 (.agg #[.func (.func 18) #[] #[],.func (.func 19) #[] #[],.func (.func 20) #[] #[],.func (.func 21) #[] #[],.func (.func 22) #[] #[],.func (.func 23) #[] #[],.func (.func 24) #[] #[],.func (.func 25) #[] #[]]) (.int .i64 7)).run Tryz.prog w=.ok (.func (.func 25) #[] #[]) w:=by kernel_rfl
set_option maxHeartbeats 32000000 in
set_option maxRecDepth 100000 in
theorem first10_l (p l i:List Pt) (ap al ai:Option Addr) (cp cl ci:Nat) (w:World) (hA:Pol w ap al ai cp cl ci p l i) :
 Calls Tryz.prog 8 #[.agg #[.slice ap p.length cp,.slice al l.length cl,.slice ai i.length ci]] w (Gives (.tuple #[.agg #[.int .i64 (firstF p l i).k,.int .i64 (firstF p l i).a,.int .i64 (firstF p l i).b],.int .i64 (firstE p l i)]) w):=by
 have HC:=Lib.hid (fun W h=>check10_l p l i ap al ai cp cl ci W (hA.below h))
 obtain ⟨S,hS⟩:∃ S,l ++ i=S:=⟨_,rfl⟩
 have HE:Hid (firstE p l i=if checkB p l i=true then 0 else 2):=rfl
 have HFi:Hid (firstF p l i=if checkB p l i=true then flTo p l i 8 else fl0):=rfl
 have HZ0:Hid ((flTo p l i 0).k=0):=rfl
 have H0:Hid (checkB p l i=true → (flTo p l i 0).k=0 → ∀ W,Below w.heap.size w W → Calls Tryz.prog 18 #[.agg #[.slice ap p.length cp,.slice al l.length cl,.slice ai i.length ci]] W (Gives (.agg #[.int .i64 (chk p l i 0).k,.int .i64 (chk p l i 0).a,.int .i64 (chk p l i 0).b]) W)):=fun hcb h0 W h=>by
  exact alike_l p l i ap al ai cp cl ci W (hA.below h)
 have H1:Hid (checkB p l i=true → (flTo p l i 1).k=0 → ∀ W,Below w.heap.size w W → Calls Tryz.prog 19 #[.agg #[.slice ap p.length cp,.slice al l.length cl,.slice ai i.length ci]] W (Gives (.agg #[.int .i64 (chk p l i 1).k,.int .i64 (chk p l i 1).a,.int .i64 (chk p l i 1).b]) W)):=fun hcb h0 W h=>by
  exact shrunk_l p l i ap al ai cp cl ci W (hA.below h) S hS
 have H2:Hid (checkB p l i=true → (flTo p l i 2).k=0 → ∀ W,Below w.heap.size w W → Calls Tryz.prog 20 #[.agg #[.slice ap p.length cp,.slice al l.length cl,.slice ai i.length ci]] W (Gives (.agg #[.int .i64 (chk p l i 2).k,.int .i64 (chk p l i 2).a,.int .i64 (chk p l i 2).b]) W)):=fun hcb h0 W h=>by
  have hc:=checkB_iff.1 hcb
  have h2:=flTo_le h0 (j:=2) (by omega)
  exact meeting_l p l i ap al ai cp cl ci W (hA.below h) S hS hc h2
 have H3:Hid (checkB p l i=true → (flTo p l i 3).k=0 → ∀ W,Below w.heap.size w W → Calls Tryz.prog 21 #[.agg #[.slice ap p.length cp,.slice al l.length cl,.slice ai i.length ci]] W (Gives (.agg #[.int .i64 (chk p l i 3).k,.int .i64 (chk p l i 3).a,.int .i64 (chk p l i 3).b]) W)):=fun hcb h0 W h=>by
  have hc:=checkB_iff.1 hcb
  have hSi:∀ k,k < S.length → sgInB p.length (pget S k)=true:=by subst hS;exact fun k hk=>chk_seg hc hk
  exact covered_l p l i ap al ai cp cl ci W (hA.below h) S hS hSi
 have H4:Hid (checkB p l i=true → (flTo p l i 4).k=0 → ∀ W,Below w.heap.size w W → Calls Tryz.prog 22 #[.agg #[.slice ap p.length cp,.slice al l.length cl,.slice ai i.length ci]] W (Gives (.agg #[.int .i64 (chk p l i 4).k,.int .i64 (chk p l i 4).a,.int .i64 (chk p l i 4).b]) W)):=fun hcb h0 W h=>by
  have hc:=checkB_iff.1 hcb
  have h2:=flTo_le h0 (j:=3) (by omega)
  exact open_l p l i ap al ai cp cl ci W (hA.below h) hc h2
 have H5:Hid (checkB p l i=true → (flTo p l i 5).k=0 → ∀ W,Below w.heap.size w W → Calls Tryz.prog 23 #[.agg #[.slice ap p.length cp,.slice al l.length cl,.slice ai i.length ci]] W (Gives (.agg #[.int .i64 (chk p l i 5).k,.int .i64 (chk p l i 5).a,.int .i64 (chk p l i 5).b]) W)):=fun hcb h0 W h=>by
  exact empty_l p l i ap al ai cp cl ci W (hA.below h)
 have H6:Hid (checkB p l i=true → (flTo p l i 6).k=0 → ∀ W,Below w.heap.size w W → Calls Tryz.prog 24 #[.agg #[.slice ap p.length cp,.slice al l.length cl,.slice ai i.length ci]] W (Gives (.agg #[.int .i64 (chk p l i 6).k,.int .i64 (chk p l i 6).a,.int .i64 (chk p l i 6).b]) W)):=fun hcb h0 W h=>by
  exact out_l p l i ap al ai cp cl ci W (hA.below h)
 have H7:Hid (checkB p l i=true → (flTo p l i 7).k=0 → ∀ W,Below w.heap.size w W → Calls Tryz.prog 25 #[.agg #[.slice ap p.length cp,.slice al l.length cl,.slice ai i.length ci]] W (Gives (.agg #[.int .i64 (chk p l i 7).k,.int .i64 (chk p l i 7).a,.int .i64 (chk p l i 7).b]) W)):=fun hcb h0 W h=>by
  have hc:=checkB_iff.1 hcb
  have h2:=flTo_le h0 (j:=2) (by omega)
  exact stray_l p l i ap al ai cp cl ci W (hA.below h) S hS hc h2
 clear hA hS
 generalize firstF p l i=FF at *
 generalize firstE p l i=FE at *
 obtain ⟨cb,hcb⟩:∃ c,checkB p l i=c:=⟨_,rfl⟩
 rw [hcb] at HE HFi
 have HCB:=Lib.hid hcb
 clear hcb
 go_enter Tryz.func8,Tryz.ntmps8
 go_upto_region 1 with (fail)
 have HV:=Lib.hid ((var3_new w (.slice ap p.length cp) (.slice al l.length cl) (.slice ai i.length ci) 25 w.heap.size rfl).below (bl_one _ (.cells #[.int .i64 0,.int .i64 0,.int .i64 0] 30)))
 have HF:=Lib.hid (var3_new (w.alloc (.cells #[.slice ap p.length cp,.slice al l.length cl,.slice ai i.length ci] 25)) (.int .i64 0) (.int .i64 0) (.int .i64 0) 30 (w.heap.size + 1) (by simp))
 have HB:=Lib.hid (bl_alloc (bl_one w (.cells #[.slice ap p.length cp,.slice al l.length cl,.slice ai i.length ci] 25)) (.cells #[.int .i64 0,.int .i64 0,.int .i64 0] 30))
 generalize (w.alloc (.cells #[.slice ap p.length cp,.slice al l.length cl,.slice ai i.length ci] 25)).alloc (.cells #[.int .i64 0,.int .i64 0,.int .i64 0] 30)=W1 at *
 obtain ⟨k0,k1,k2⟩:=HV.out.three
 go_wp2_with fail
 (with_reducible refine (HC.out _ HB.out).mono ?_);rintro e w2 ⟨rfl,hb2⟩
 replace HB:=Lib.hid (bl_trans HB.out hb2)
 replace HF:=Lib.hid (HF.out.below hb2)
 replace HV:=Lib.hid (HV.out.below hb2)
 clear hb2 HC k0 k1 k2
 obtain ⟨d0,d1,d2⟩:=HF.out.three
 obtain ⟨f0,f1,f2⟩:=HF.out.free3
 cases cb
 case false=>
  obtain rfl:FE=2:=HE.out
  obtain rfl:FF=fl0:=HFi.out
  go_wp2_with fail
  obtain ⟨e0,e1,e2⟩:=(HF.out.set3 (.int .i64 0) (.int .i64 0) (.int .i64 0)).three
  refine bodyPost_ret (v:=.tuple #[.agg #[.int .i64 0,.int .i64 0,.int .i64 0],.int .i64 2]) (by simp [results,Tryz.results8,go_sem,e0,e1,e2];done) rfl ⟨rfl,?_⟩
  exact bl_set (bl_set (bl_set HB.out (by dsimp only;omega) _) (by dsimp only;omega) _) (by dsimp only;omega) _
 case true=>
 obtain rfl:FE=0:=HE.out
 obtain rfl:FF=flTo p l i 8:=HFi.out
 clear HE HFi d0 d1 d2 f0 f1 f2
 go_wp2_with fail
 have HBn:=Lib.hid (bl_trans HB.out (bl_one w2 (.cells #[.func (.func 18) #[] #[],.func (.func 19) #[] #[],.func (.func 20) #[] #[],.func (.func 21) #[] #[],.func (.func 22) #[] #[],.func (.func 23) #[] #[],.func (.func 24) #[] #[],.func (.func 25) #[] #[]] 48)))
 have HFn:=Lib.hid (HF.out.below (bl_one w2 (.cells #[.func (.func 18) #[] #[],.func (.func 19) #[] #[],.func (.func 20) #[] #[],.func (.func 21) #[] #[],.func (.func 22) #[] #[],.func (.func 23) #[] #[],.func (.func 24) #[] #[],.func (.func 25) #[] #[]] 48)))
 have HVn:=Lib.hid (HV.out.below (bl_one w2 (.cells #[.func (.func 18) #[] #[],.func (.func 19) #[] #[],.func (.func 20) #[] #[],.func (.func 21) #[] #[],.func (.func 22) #[] #[],.func (.func 23) #[] #[],.func (.func 24) #[] #[],.func (.func 25) #[] #[]] 48)))
 generalize w2.alloc _=W3 at *
 clear HB HF HV
 have i0:=fidx0
 have i1:=fidx1
 have i2:=fidx2
 have i3:=fidx3
 have i4:=fidx4
 have i5:=fidx5
 have i6:=fidx6
 have i7:=fidx7
 refine wp_loop_rounds 9 ?_
 obtain ⟨⟨c,a,b⟩,hcj⟩:∃ f,chk p l i 0=f:=⟨_,rfl⟩
 have HJ:=Lib.hid (H0.out HCB.out HZ0.out)
 rw [hcj] at HJ
 have HIs:Hid (c ≠ 0 → flTo p l i 8=⟨c,a,b⟩):=fun h=>flTo_is HZ0.out (by omega) hcj h
 have HOn:Hid (c=0 → (flTo p l i 1).k=0):=fun h=>flTo_on HZ0.out hcj h
 clear hcj
 obtain ⟨k0,k1,k2⟩:=HVn.out.three
 rw [rounds_succ]
 go_wp2_with fail
 (with_reducible refine (HJ.out _ HBn.out).mono ?_);rintro e w4 ⟨rfl,hb4⟩
 dsimp only
 have HBm:=Lib.hid (bl_trans HBn.out hb4)
 have HFm:=Lib.hid (HFn.out.below hb4)
 have HVm:=Lib.hid (HVn.out.below hb4)
 clear hb4 HJ k0 k1 k2 HBn HFn HVn
 by_cases z0:c=0
 case neg=>
  have y1:(c=0)=False:=eq_false z0
  have y2:(c == 0)=false:=beq_eq_false_iff_ne.2 z0
  have y3:(c != 0)=true:=bne_iff_ne.2 z0
  have HZ:=Lib.hid (HIs.out z0)
  clear z0 HIs HOn
  go_upto_region 8 with (fail)
  have HBq:=Lib.hid (bl_trans HBm.out (bl_one w4 (.cells #[.int .i64 c,.int .i64 a,.int .i64 b] 30)))
  have HFq:=Lib.hid (HFm.out.below (bl_one w4 (.cells #[.int .i64 c,.int .i64 a,.int .i64 b] 30)))
  have HQ:=Lib.hid (var3_new w4 (.int .i64 c) (.int .i64 a) (.int .i64 b) 30 w4.heap.size rfl)
  generalize w4.alloc (.cells #[.int .i64 c,.int .i64 a,.int .i64 b] 30)=W5 at *
  obtain ⟨q0,q1,q2⟩:=HQ.out.three
  obtain ⟨d0,d1,d2⟩:=HFq.out.three
  obtain ⟨f0,f1,f2⟩:=HFq.out.free3
  go_wp2_with fail
  obtain ⟨e0,e1,e2⟩:=(HFq.out.set3 (.int .i64 c) (.int .i64 a) (.int .i64 b)).three
  refine bodyPost_ret (v:=.tuple #[.agg #[.int .i64 c,.int .i64 a,.int .i64 b],.int .i64 0]) (by simp [results,Tryz.results8,go_sem,e0,e1,e2];done) rfl ⟨by rw [HZ.out],?_⟩
  exact bl_set (bl_set (bl_set HBq.out (by dsimp only;omega) _) (by dsimp only;omega) _) (by dsimp only;omega) _
 case pos=>
 subst z0
 replace HZ0:=Lib.hid (HOn.out rfl)
 clear HIs HOn
 go_wp2_with fail
 have HBn:=Lib.hid (bl_trans HBm.out (bl_one w4 (.cells #[.int .i64 0,.int .i64 a,.int .i64 b] 30)))
 have HFn:=Lib.hid (HFm.out.below (bl_one w4 (.cells #[.int .i64 0,.int .i64 a,.int .i64 b] 30)))
 have HVn:=Lib.hid (HVm.out.below (bl_one w4 (.cells #[.int .i64 0,.int .i64 a,.int .i64 b] 30)))
 generalize w4.alloc (.cells #[.int .i64 0,.int .i64 a,.int .i64 b] 30)=W5 at *
 clear HBm HFm HVm H0
 obtain ⟨⟨c,a,b⟩,hcj⟩:∃ f,chk p l i 1=f:=⟨_,rfl⟩
 have HJ:=Lib.hid (H1.out HCB.out HZ0.out)
 rw [hcj] at HJ
 have HIs:Hid (c ≠ 0 → flTo p l i 8=⟨c,a,b⟩):=fun h=>flTo_is HZ0.out (by omega) hcj h
 have HOn:Hid (c=0 → (flTo p l i 2).k=0):=fun h=>flTo_on HZ0.out hcj h
 clear hcj
 obtain ⟨k0,k1,k2⟩:=HVn.out.three
 rw [rounds_succ]
 go_wp2_with fail
 (with_reducible refine (HJ.out _ HBn.out).mono ?_);rintro e w4 ⟨rfl,hb4⟩
 dsimp only
 have HBm:=Lib.hid (bl_trans HBn.out hb4)
 have HFm:=Lib.hid (HFn.out.below hb4)
 have HVm:=Lib.hid (HVn.out.below hb4)
 clear hb4 HJ k0 k1 k2 HBn HFn HVn
 by_cases z0:c=0
 case neg=>
  have y1:(c=0)=False:=eq_false z0
  have y2:(c == 0)=false:=beq_eq_false_iff_ne.2 z0
  have y3:(c != 0)=true:=bne_iff_ne.2 z0
  have HZ:=Lib.hid (HIs.out z0)
  clear z0 HIs HOn
  go_upto_region 8 with (fail)
  have HBq:=Lib.hid (bl_trans HBm.out (bl_one w4 (.cells #[.int .i64 c,.int .i64 a,.int .i64 b] 30)))
  have HFq:=Lib.hid (HFm.out.below (bl_one w4 (.cells #[.int .i64 c,.int .i64 a,.int .i64 b] 30)))
  have HQ:=Lib.hid (var3_new w4 (.int .i64 c) (.int .i64 a) (.int .i64 b) 30 w4.heap.size rfl)
  generalize w4.alloc (.cells #[.int .i64 c,.int .i64 a,.int .i64 b] 30)=W5 at *
  obtain ⟨q0,q1,q2⟩:=HQ.out.three
  obtain ⟨d0,d1,d2⟩:=HFq.out.three
  obtain ⟨f0,f1,f2⟩:=HFq.out.free3
  go_wp2_with fail
  obtain ⟨e0,e1,e2⟩:=(HFq.out.set3 (.int .i64 c) (.int .i64 a) (.int .i64 b)).three
  refine bodyPost_ret (v:=.tuple #[.agg #[.int .i64 c,.int .i64 a,.int .i64 b],.int .i64 0]) (by simp [results,Tryz.results8,go_sem,e0,e1,e2];done) rfl ⟨by rw [HZ.out],?_⟩
  exact bl_set (bl_set (bl_set HBq.out (by dsimp only;omega) _) (by dsimp only;omega) _) (by dsimp only;omega) _
 case pos=>
 subst z0
 replace HZ0:=Lib.hid (HOn.out rfl)
 clear HIs HOn
 go_wp2_with fail
 have HBn:=Lib.hid (bl_trans HBm.out (bl_one w4 (.cells #[.int .i64 0,.int .i64 a,.int .i64 b] 30)))
 have HFn:=Lib.hid (HFm.out.below (bl_one w4 (.cells #[.int .i64 0,.int .i64 a,.int .i64 b] 30)))
 have HVn:=Lib.hid (HVm.out.below (bl_one w4 (.cells #[.int .i64 0,.int .i64 a,.int .i64 b] 30)))
 generalize w4.alloc (.cells #[.int .i64 0,.int .i64 a,.int .i64 b] 30)=W5 at *
 clear HBm HFm HVm H1
 obtain ⟨⟨c,a,b⟩,hcj⟩:∃ f,chk p l i 2=f:=⟨_,rfl⟩
 have HJ:=Lib.hid (H2.out HCB.out HZ0.out)
 rw [hcj] at HJ
 have HIs:Hid (c ≠ 0 → flTo p l i 8=⟨c,a,b⟩):=fun h=>flTo_is HZ0.out (by omega) hcj h
 have HOn:Hid (c=0 → (flTo p l i 3).k=0):=fun h=>flTo_on HZ0.out hcj h
 clear hcj
 obtain ⟨k0,k1,k2⟩:=HVn.out.three
 rw [rounds_succ]
 go_wp2_with fail
 (with_reducible refine (HJ.out _ HBn.out).mono ?_);rintro e w4 ⟨rfl,hb4⟩
 dsimp only
 have HBm:=Lib.hid (bl_trans HBn.out hb4)
 have HFm:=Lib.hid (HFn.out.below hb4)
 have HVm:=Lib.hid (HVn.out.below hb4)
 clear hb4 HJ k0 k1 k2 HBn HFn HVn
 by_cases z0:c=0
 case neg=>
  have y1:(c=0)=False:=eq_false z0
  have y2:(c == 0)=false:=beq_eq_false_iff_ne.2 z0
  have y3:(c != 0)=true:=bne_iff_ne.2 z0
  have HZ:=Lib.hid (HIs.out z0)
  clear z0 HIs HOn
  go_upto_region 8 with (fail)
  have HBq:=Lib.hid (bl_trans HBm.out (bl_one w4 (.cells #[.int .i64 c,.int .i64 a,.int .i64 b] 30)))
  have HFq:=Lib.hid (HFm.out.below (bl_one w4 (.cells #[.int .i64 c,.int .i64 a,.int .i64 b] 30)))
  have HQ:=Lib.hid (var3_new w4 (.int .i64 c) (.int .i64 a) (.int .i64 b) 30 w4.heap.size rfl)
  generalize w4.alloc (.cells #[.int .i64 c,.int .i64 a,.int .i64 b] 30)=W5 at *
  obtain ⟨q0,q1,q2⟩:=HQ.out.three
  obtain ⟨d0,d1,d2⟩:=HFq.out.three
  obtain ⟨f0,f1,f2⟩:=HFq.out.free3
  go_wp2_with fail
  obtain ⟨e0,e1,e2⟩:=(HFq.out.set3 (.int .i64 c) (.int .i64 a) (.int .i64 b)).three
  refine bodyPost_ret (v:=.tuple #[.agg #[.int .i64 c,.int .i64 a,.int .i64 b],.int .i64 0]) (by simp [results,Tryz.results8,go_sem,e0,e1,e2];done) rfl ⟨by rw [HZ.out],?_⟩
  exact bl_set (bl_set (bl_set HBq.out (by dsimp only;omega) _) (by dsimp only;omega) _) (by dsimp only;omega) _
 case pos=>
 subst z0
 replace HZ0:=Lib.hid (HOn.out rfl)
 clear HIs HOn
 go_wp2_with fail
 have HBn:=Lib.hid (bl_trans HBm.out (bl_one w4 (.cells #[.int .i64 0,.int .i64 a,.int .i64 b] 30)))
 have HFn:=Lib.hid (HFm.out.below (bl_one w4 (.cells #[.int .i64 0,.int .i64 a,.int .i64 b] 30)))
 have HVn:=Lib.hid (HVm.out.below (bl_one w4 (.cells #[.int .i64 0,.int .i64 a,.int .i64 b] 30)))
 generalize w4.alloc (.cells #[.int .i64 0,.int .i64 a,.int .i64 b] 30)=W5 at *
 clear HBm HFm HVm H2
 obtain ⟨⟨c,a,b⟩,hcj⟩:∃ f,chk p l i 3=f:=⟨_,rfl⟩
 have HJ:=Lib.hid (H3.out HCB.out HZ0.out)
 rw [hcj] at HJ
 have HIs:Hid (c ≠ 0 → flTo p l i 8=⟨c,a,b⟩):=fun h=>flTo_is HZ0.out (by omega) hcj h
 have HOn:Hid (c=0 → (flTo p l i 4).k=0):=fun h=>flTo_on HZ0.out hcj h
 clear hcj
 obtain ⟨k0,k1,k2⟩:=HVn.out.three
 rw [rounds_succ]
 go_wp2_with fail
 (with_reducible refine (HJ.out _ HBn.out).mono ?_);rintro e w4 ⟨rfl,hb4⟩
 dsimp only
 have HBm:=Lib.hid (bl_trans HBn.out hb4)
 have HFm:=Lib.hid (HFn.out.below hb4)
 have HVm:=Lib.hid (HVn.out.below hb4)
 clear hb4 HJ k0 k1 k2 HBn HFn HVn
 by_cases z0:c=0
 case neg=>
  have y1:(c=0)=False:=eq_false z0
  have y2:(c == 0)=false:=beq_eq_false_iff_ne.2 z0
  have y3:(c != 0)=true:=bne_iff_ne.2 z0
  have HZ:=Lib.hid (HIs.out z0)
  clear z0 HIs HOn
  go_upto_region 8 with (fail)
  have HBq:=Lib.hid (bl_trans HBm.out (bl_one w4 (.cells #[.int .i64 c,.int .i64 a,.int .i64 b] 30)))
  have HFq:=Lib.hid (HFm.out.below (bl_one w4 (.cells #[.int .i64 c,.int .i64 a,.int .i64 b] 30)))
  have HQ:=Lib.hid (var3_new w4 (.int .i64 c) (.int .i64 a) (.int .i64 b) 30 w4.heap.size rfl)
  generalize w4.alloc (.cells #[.int .i64 c,.int .i64 a,.int .i64 b] 30)=W5 at *
  obtain ⟨q0,q1,q2⟩:=HQ.out.three
  obtain ⟨d0,d1,d2⟩:=HFq.out.three
  obtain ⟨f0,f1,f2⟩:=HFq.out.free3
  go_wp2_with fail
  obtain ⟨e0,e1,e2⟩:=(HFq.out.set3 (.int .i64 c) (.int .i64 a) (.int .i64 b)).three
  refine bodyPost_ret (v:=.tuple #[.agg #[.int .i64 c,.int .i64 a,.int .i64 b],.int .i64 0]) (by simp [results,Tryz.results8,go_sem,e0,e1,e2];done) rfl ⟨by rw [HZ.out],?_⟩
  exact bl_set (bl_set (bl_set HBq.out (by dsimp only;omega) _) (by dsimp only;omega) _) (by dsimp only;omega) _
 case pos=>
 subst z0
 replace HZ0:=Lib.hid (HOn.out rfl)
 clear HIs HOn
 go_wp2_with fail
 have HBn:=Lib.hid (bl_trans HBm.out (bl_one w4 (.cells #[.int .i64 0,.int .i64 a,.int .i64 b] 30)))
 have HFn:=Lib.hid (HFm.out.below (bl_one w4 (.cells #[.int .i64 0,.int .i64 a,.int .i64 b] 30)))
 have HVn:=Lib.hid (HVm.out.below (bl_one w4 (.cells #[.int .i64 0,.int .i64 a,.int .i64 b] 30)))
 generalize w4.alloc (.cells #[.int .i64 0,.int .i64 a,.int .i64 b] 30)=W5 at *
 clear HBm HFm HVm H3
 obtain ⟨⟨c,a,b⟩,hcj⟩:∃ f,chk p l i 4=f:=⟨_,rfl⟩
 have HJ:=Lib.hid (H4.out HCB.out HZ0.out)
 rw [hcj] at HJ
 have HIs:Hid (c ≠ 0 → flTo p l i 8=⟨c,a,b⟩):=fun h=>flTo_is HZ0.out (by omega) hcj h
 have HOn:Hid (c=0 → (flTo p l i 5).k=0):=fun h=>flTo_on HZ0.out hcj h
 clear hcj
 obtain ⟨k0,k1,k2⟩:=HVn.out.three
 rw [rounds_succ]
 go_wp2_with fail
 (with_reducible refine (HJ.out _ HBn.out).mono ?_);rintro e w4 ⟨rfl,hb4⟩
 dsimp only
 have HBm:=Lib.hid (bl_trans HBn.out hb4)
 have HFm:=Lib.hid (HFn.out.below hb4)
 have HVm:=Lib.hid (HVn.out.below hb4)
 clear hb4 HJ k0 k1 k2 HBn HFn HVn
 by_cases z0:c=0
 case neg=>
  have y1:(c=0)=False:=eq_false z0
  have y2:(c == 0)=false:=beq_eq_false_iff_ne.2 z0
  have y3:(c != 0)=true:=bne_iff_ne.2 z0
  have HZ:=Lib.hid (HIs.out z0)
  clear z0 HIs HOn
  go_upto_region 8 with (fail)
  have HBq:=Lib.hid (bl_trans HBm.out (bl_one w4 (.cells #[.int .i64 c,.int .i64 a,.int .i64 b] 30)))
  have HFq:=Lib.hid (HFm.out.below (bl_one w4 (.cells #[.int .i64 c,.int .i64 a,.int .i64 b] 30)))
  have HQ:=Lib.hid (var3_new w4 (.int .i64 c) (.int .i64 a) (.int .i64 b) 30 w4.heap.size rfl)
  generalize w4.alloc (.cells #[.int .i64 c,.int .i64 a,.int .i64 b] 30)=W5 at *
  obtain ⟨q0,q1,q2⟩:=HQ.out.three
  obtain ⟨d0,d1,d2⟩:=HFq.out.three
  obtain ⟨f0,f1,f2⟩:=HFq.out.free3
  go_wp2_with fail
  obtain ⟨e0,e1,e2⟩:=(HFq.out.set3 (.int .i64 c) (.int .i64 a) (.int .i64 b)).three
  refine bodyPost_ret (v:=.tuple #[.agg #[.int .i64 c,.int .i64 a,.int .i64 b],.int .i64 0]) (by simp [results,Tryz.results8,go_sem,e0,e1,e2];done) rfl ⟨by rw [HZ.out],?_⟩
  exact bl_set (bl_set (bl_set HBq.out (by dsimp only;omega) _) (by dsimp only;omega) _) (by dsimp only;omega) _
 case pos=>
 subst z0
 replace HZ0:=Lib.hid (HOn.out rfl)
 clear HIs HOn
 go_wp2_with fail
 have HBn:=Lib.hid (bl_trans HBm.out (bl_one w4 (.cells #[.int .i64 0,.int .i64 a,.int .i64 b] 30)))
 have HFn:=Lib.hid (HFm.out.below (bl_one w4 (.cells #[.int .i64 0,.int .i64 a,.int .i64 b] 30)))
 have HVn:=Lib.hid (HVm.out.below (bl_one w4 (.cells #[.int .i64 0,.int .i64 a,.int .i64 b] 30)))
 generalize w4.alloc (.cells #[.int .i64 0,.int .i64 a,.int .i64 b] 30)=W5 at *
 clear HBm HFm HVm H4
 obtain ⟨⟨c,a,b⟩,hcj⟩:∃ f,chk p l i 5=f:=⟨_,rfl⟩
 have HJ:=Lib.hid (H5.out HCB.out HZ0.out)
 rw [hcj] at HJ
 have HIs:Hid (c ≠ 0 → flTo p l i 8=⟨c,a,b⟩):=fun h=>flTo_is HZ0.out (by omega) hcj h
 have HOn:Hid (c=0 → (flTo p l i 6).k=0):=fun h=>flTo_on HZ0.out hcj h
 clear hcj
 obtain ⟨k0,k1,k2⟩:=HVn.out.three
 rw [rounds_succ]
 go_wp2_with fail
 (with_reducible refine (HJ.out _ HBn.out).mono ?_);rintro e w4 ⟨rfl,hb4⟩
 dsimp only
 have HBm:=Lib.hid (bl_trans HBn.out hb4)
 have HFm:=Lib.hid (HFn.out.below hb4)
 have HVm:=Lib.hid (HVn.out.below hb4)
 clear hb4 HJ k0 k1 k2 HBn HFn HVn
 by_cases z0:c=0
 case neg=>
  have y1:(c=0)=False:=eq_false z0
  have y2:(c == 0)=false:=beq_eq_false_iff_ne.2 z0
  have y3:(c != 0)=true:=bne_iff_ne.2 z0
  have HZ:=Lib.hid (HIs.out z0)
  clear z0 HIs HOn
  go_upto_region 8 with (fail)
  have HBq:=Lib.hid (bl_trans HBm.out (bl_one w4 (.cells #[.int .i64 c,.int .i64 a,.int .i64 b] 30)))
  have HFq:=Lib.hid (HFm.out.below (bl_one w4 (.cells #[.int .i64 c,.int .i64 a,.int .i64 b] 30)))
  have HQ:=Lib.hid (var3_new w4 (.int .i64 c) (.int .i64 a) (.int .i64 b) 30 w4.heap.size rfl)
  generalize w4.alloc (.cells #[.int .i64 c,.int .i64 a,.int .i64 b] 30)=W5 at *
  obtain ⟨q0,q1,q2⟩:=HQ.out.three
  obtain ⟨d0,d1,d2⟩:=HFq.out.three
  obtain ⟨f0,f1,f2⟩:=HFq.out.free3
  go_wp2_with fail
  obtain ⟨e0,e1,e2⟩:=(HFq.out.set3 (.int .i64 c) (.int .i64 a) (.int .i64 b)).three
  refine bodyPost_ret (v:=.tuple #[.agg #[.int .i64 c,.int .i64 a,.int .i64 b],.int .i64 0]) (by simp [results,Tryz.results8,go_sem,e0,e1,e2];done) rfl ⟨by rw [HZ.out],?_⟩
  exact bl_set (bl_set (bl_set HBq.out (by dsimp only;omega) _) (by dsimp only;omega) _) (by dsimp only;omega) _
 case pos=>
 subst z0
 replace HZ0:=Lib.hid (HOn.out rfl)
 clear HIs HOn
 go_wp2_with fail
 have HBn:=Lib.hid (bl_trans HBm.out (bl_one w4 (.cells #[.int .i64 0,.int .i64 a,.int .i64 b] 30)))
 have HFn:=Lib.hid (HFm.out.below (bl_one w4 (.cells #[.int .i64 0,.int .i64 a,.int .i64 b] 30)))
 have HVn:=Lib.hid (HVm.out.below (bl_one w4 (.cells #[.int .i64 0,.int .i64 a,.int .i64 b] 30)))
 generalize w4.alloc (.cells #[.int .i64 0,.int .i64 a,.int .i64 b] 30)=W5 at *
 clear HBm HFm HVm H5
 obtain ⟨⟨c,a,b⟩,hcj⟩:∃ f,chk p l i 6=f:=⟨_,rfl⟩
 have HJ:=Lib.hid (H6.out HCB.out HZ0.out)
 rw [hcj] at HJ
 have HIs:Hid (c ≠ 0 → flTo p l i 8=⟨c,a,b⟩):=fun h=>flTo_is HZ0.out (by omega) hcj h
 have HOn:Hid (c=0 → (flTo p l i 7).k=0):=fun h=>flTo_on HZ0.out hcj h
 clear hcj
 obtain ⟨k0,k1,k2⟩:=HVn.out.three
 rw [rounds_succ]
 go_wp2_with fail
 (with_reducible refine (HJ.out _ HBn.out).mono ?_);rintro e w4 ⟨rfl,hb4⟩
 dsimp only
 have HBm:=Lib.hid (bl_trans HBn.out hb4)
 have HFm:=Lib.hid (HFn.out.below hb4)
 have HVm:=Lib.hid (HVn.out.below hb4)
 clear hb4 HJ k0 k1 k2 HBn HFn HVn
 by_cases z0:c=0
 case neg=>
  have y1:(c=0)=False:=eq_false z0
  have y2:(c == 0)=false:=beq_eq_false_iff_ne.2 z0
  have y3:(c != 0)=true:=bne_iff_ne.2 z0
  have HZ:=Lib.hid (HIs.out z0)
  clear z0 HIs HOn
  go_upto_region 8 with (fail)
  have HBq:=Lib.hid (bl_trans HBm.out (bl_one w4 (.cells #[.int .i64 c,.int .i64 a,.int .i64 b] 30)))
  have HFq:=Lib.hid (HFm.out.below (bl_one w4 (.cells #[.int .i64 c,.int .i64 a,.int .i64 b] 30)))
  have HQ:=Lib.hid (var3_new w4 (.int .i64 c) (.int .i64 a) (.int .i64 b) 30 w4.heap.size rfl)
  generalize w4.alloc (.cells #[.int .i64 c,.int .i64 a,.int .i64 b] 30)=W5 at *
  obtain ⟨q0,q1,q2⟩:=HQ.out.three
  obtain ⟨d0,d1,d2⟩:=HFq.out.three
  obtain ⟨f0,f1,f2⟩:=HFq.out.free3
  go_wp2_with fail
  obtain ⟨e0,e1,e2⟩:=(HFq.out.set3 (.int .i64 c) (.int .i64 a) (.int .i64 b)).three
  refine bodyPost_ret (v:=.tuple #[.agg #[.int .i64 c,.int .i64 a,.int .i64 b],.int .i64 0]) (by simp [results,Tryz.results8,go_sem,e0,e1,e2];done) rfl ⟨by rw [HZ.out],?_⟩
  exact bl_set (bl_set (bl_set HBq.out (by dsimp only;omega) _) (by dsimp only;omega) _) (by dsimp only;omega) _
 case pos=>
 subst z0
 replace HZ0:=Lib.hid (HOn.out rfl)
 clear HIs HOn
 go_wp2_with fail
 have HBn:=Lib.hid (bl_trans HBm.out (bl_one w4 (.cells #[.int .i64 0,.int .i64 a,.int .i64 b] 30)))
 have HFn:=Lib.hid (HFm.out.below (bl_one w4 (.cells #[.int .i64 0,.int .i64 a,.int .i64 b] 30)))
 have HVn:=Lib.hid (HVm.out.below (bl_one w4 (.cells #[.int .i64 0,.int .i64 a,.int .i64 b] 30)))
 generalize w4.alloc (.cells #[.int .i64 0,.int .i64 a,.int .i64 b] 30)=W5 at *
 clear HBm HFm HVm H6
 obtain ⟨⟨c,a,b⟩,hcj⟩:∃ f,chk p l i 7=f:=⟨_,rfl⟩
 have HJ:=Lib.hid (H7.out HCB.out HZ0.out)
 rw [hcj] at HJ
 have HIs:Hid (c ≠ 0 → flTo p l i 8=⟨c,a,b⟩):=fun h=>flTo_is HZ0.out (by omega) hcj h
 have HOn:Hid (c=0 → (flTo p l i 8).k=0):=fun h=>flTo_on HZ0.out hcj h
 clear hcj
 obtain ⟨k0,k1,k2⟩:=HVn.out.three
 rw [rounds_succ]
 go_wp2_with fail
 (with_reducible refine (HJ.out _ HBn.out).mono ?_);rintro e w4 ⟨rfl,hb4⟩
 dsimp only
 have HBm:=Lib.hid (bl_trans HBn.out hb4)
 have HFm:=Lib.hid (HFn.out.below hb4)
 have HVm:=Lib.hid (HVn.out.below hb4)
 clear hb4 HJ k0 k1 k2 HBn HFn HVn
 by_cases z0:c=0
 case neg=>
  have y1:(c=0)=False:=eq_false z0
  have y2:(c == 0)=false:=beq_eq_false_iff_ne.2 z0
  have y3:(c != 0)=true:=bne_iff_ne.2 z0
  have HZ:=Lib.hid (HIs.out z0)
  clear z0 HIs HOn
  go_upto_region 8 with (fail)
  have HBq:=Lib.hid (bl_trans HBm.out (bl_one w4 (.cells #[.int .i64 c,.int .i64 a,.int .i64 b] 30)))
  have HFq:=Lib.hid (HFm.out.below (bl_one w4 (.cells #[.int .i64 c,.int .i64 a,.int .i64 b] 30)))
  have HQ:=Lib.hid (var3_new w4 (.int .i64 c) (.int .i64 a) (.int .i64 b) 30 w4.heap.size rfl)
  generalize w4.alloc (.cells #[.int .i64 c,.int .i64 a,.int .i64 b] 30)=W5 at *
  obtain ⟨q0,q1,q2⟩:=HQ.out.three
  obtain ⟨d0,d1,d2⟩:=HFq.out.three
  obtain ⟨f0,f1,f2⟩:=HFq.out.free3
  go_wp2_with fail
  obtain ⟨e0,e1,e2⟩:=(HFq.out.set3 (.int .i64 c) (.int .i64 a) (.int .i64 b)).three
  refine bodyPost_ret (v:=.tuple #[.agg #[.int .i64 c,.int .i64 a,.int .i64 b],.int .i64 0]) (by simp [results,Tryz.results8,go_sem,e0,e1,e2];done) rfl ⟨by rw [HZ.out],?_⟩
  exact bl_set (bl_set (bl_set HBq.out (by dsimp only;omega) _) (by dsimp only;omega) _) (by dsimp only;omega) _
 case pos=>
 subst z0
 replace HZ0:=Lib.hid (HOn.out rfl)
 clear HIs HOn
 go_wp2_with fail
 have HBn:=Lib.hid (bl_trans HBm.out (bl_one w4 (.cells #[.int .i64 0,.int .i64 a,.int .i64 b] 30)))
 have HFn:=Lib.hid (HFm.out.below (bl_one w4 (.cells #[.int .i64 0,.int .i64 a,.int .i64 b] 30)))
 have HVn:=Lib.hid (HVm.out.below (bl_one w4 (.cells #[.int .i64 0,.int .i64 a,.int .i64 b] 30)))
 generalize w4.alloc (.cells #[.int .i64 0,.int .i64 a,.int .i64 b] 30)=W5 at *
 clear HBm HFm HVm H7
 have HZ:=Lib.hid (flTo_kind HZ0.out)
 obtain ⟨d0,d1,d2⟩:=HFn.out.three
 obtain ⟨f0,f1,f2⟩:=HFn.out.free3
 rw [rounds_succ]
 go_wp2_with fail
 obtain ⟨e0,e1,e2⟩:=(HFn.out.set3 (.int .i64 0) (.int .i64 0) (.int .i64 0)).three
 refine bodyPost_ret (v:=.tuple #[.agg #[.int .i64 0,.int .i64 0,.int .i64 0],.int .i64 0]) (by simp [results,Tryz.results8,go_sem,e0,e1,e2];done) rfl ⟨by rw [HZ.out] <;> rfl,?_⟩
 exact bl_set (bl_set (bl_set HBn.out (by dsimp only;omega) _) (by dsimp only;omega) _) (by dsimp only;omega) _
end Go.Proofs.YtpjaefcmaiimlaaGreat

/-
  Layer 10: valid.right, Loops, Inside.
-/
namespace Go.Proofs.YtpjaefcmaiimlaaGreat
open Go.RowKit

def loopsL (p l i:List Pt):List (List Int):=if rightI p l i=true then (ringsR (p.length:Int) l).1 else []
def loopsE (p l i:List Pt):Int:=if rightI p l i=true then (ringsR (p.length:Int) l).2.2 else 2
def ownB (l i:List Pt) (a b:Int):Bool:=anyN (fun k=>decide (⟨a,b⟩=pget (l ++ i) k)) (l ++ i).length || anyN (fun k=>decide (⟨b,a⟩=pget (l ++ i) k)) (l ++ i).length
def twoB (p:List Pt) (a b:Int):Bool:=!(decide (min a b < 0)) && !(decide ((p.length:Int) ≤ max a b)) && !(decide (a=b))
def insideF (p l i:List Pt) (a b:Int):Bool:=rightI p l i && twoB p a b && (ownB l i a b || (passB p (l ++ i) a.toNat b.toNat && midW p l ⟨a,b⟩))
theorem right_is (p l i:List Pt):rightI p l i=(decide (firstE p l i=0) && decide ((firstF p l i).k=0)):=by
 unfold rightI firstE firstF
 cases checkB p l i <;> rfl
set_option maxHeartbeats 8000000 in
set_option maxRecDepth 100000 in
theorem right10_l (p l i:List Pt) (ap al ai:Option Addr) (cp cl ci:Nat) (w:World) (hA:Pol w ap al ai cp cl ci p l i) :
 Calls Tryz.prog 31 #[.agg #[.slice ap p.length cp,.slice al l.length cl,.slice ai i.length ci]] w (Gives (.bool (rightI p l i)) w):=by
 have HC:=Lib.hid (fun W h=>first10_l p l i ap al ai cp cl ci W (hA.below h))
 have HR:=Lib.hid (right_is p l i)
 clear hA
 generalize rightI p l i=r at *
 generalize firstE p l i=e9 at *
 obtain ⟨⟨c,a,b⟩,hf⟩:∃ f,firstF p l i=f:=⟨_,rfl⟩
 rw [hf] at HC HR
 clear hf
 go_enter Tryz.func31,Tryz.ntmps31
 go_upto_region 1 with (fail)
 have HV:=Lib.hid (var3_new w (.slice ap p.length cp) (.slice al l.length cl) (.slice ai i.length ci) 25 w.heap.size rfl)
 have HB:=Lib.hid (bl_one w (.cells #[.slice ap p.length cp,.slice al l.length cl,.slice ai i.length ci] 25))
 generalize w.alloc (.cells #[.slice ap p.length cp,.slice al l.length cl,.slice ai i.length ci] 25)=W1 at *
 obtain ⟨k0,k1,k2⟩:=HV.out.three
 go_wp2_with fail
 (with_reducible refine (HC.out _ HB.out).mono ?_);rintro e w2 ⟨rfl,hb2⟩
 replace HB:=Lib.hid (bl_trans HB.out hb2)
 clear hb2 HC k0 k1 k2 HV
 dsimp only
 go_upto_region 2 with (fail)
 have HQ:=Lib.hid (var3_new w2 (.int .i64 c) (.int .i64 a) (.int .i64 b) 30 w2.heap.size rfl)
 have HBq:=Lib.hid (bl_trans HB.out (bl_one w2 (.cells #[.int .i64 c,.int .i64 a,.int .i64 b] 30)))
 generalize w2.alloc (.cells #[.int .i64 c,.int .i64 a,.int .i64 b] 30)=W5 at *
 obtain ⟨q0,q1,q2⟩:=HQ.out.three
 by_cases h:e9=0
 ·subst h
  by_cases hc:c=0
  ·subst hc
   have HZ:Hid (r=true):=HR.out
   clear HR
   go_wp2_with fail
   go_ret
   exact ⟨by rw [HZ.out];rfl,HBq.out⟩
  ·have y1:(c=0)=False:=eq_false hc
   have y2:(c == 0)=false:=beq_eq_false_iff_ne.2 hc
   have HZ:Hid (r=false):=by unfold Hid;rw [HR.out,decide_eq_false (show ¬ (Fl.mk c a b).k=0 from hc)];rfl
   clear HR hc
   go_wp2_with fail
   go_ret
   exact ⟨by rw [HZ.out];rfl,HBq.out⟩
 ·have y1:(e9=0)=False:=eq_false h
  have y2:(e9 == 0)=false:=beq_eq_false_iff_ne.2 h
  have HZ:Hid (r=false):=by unfold Hid;rw [HR.out,decide_eq_false h];rfl
  clear HR h
  go_wp2_with fail
  go_ret
  exact ⟨by rw [HZ.out];rfl,HBq.out⟩
set_option maxHeartbeats 8000000 in
set_option maxRecDepth 100000 in
theorem loops10_l (p l i:List Pt) (ap al ai:Option Addr) (cp cl ci:Nat) (w:World) (hA:Pol w ap al ai cp cl ci p l i) :
 Calls Tryz.prog 11 #[.agg #[.slice ap p.length cp,.slice al l.length cl,.slice ai i.length ci]] w fun e W=>∃ ad cap,e=.returned (.tuple #[.slice ad (loopsL p l i).length cap,.int .i64 (loopsE p l i)])∧(loopsL p l i).length ≤ cap∧RowsAt W ad (loopsL p l i)∧(ad=none → cap=0)∧Below w.heap.size w W:=by
 have HC:=Lib.hid (fun W h=>right10_l p l i ap al ai cp cl ci W (hA.below h))
 have HRi:=Lib.hid (fun W h=>rings_l (p.length:Int) l al cl W (hA.ll.below h) (by have:=hA.lenP;omega) hA.lenL)
 have HL:Hid (loopsL p l i=if rightI p l i=true then (ringsR (p.length:Int) l).1 else []):=rfl
 have HE:Hid (loopsE p l i=if rightI p l i=true then (ringsR (p.length:Int) l).2.2 else 2):=rfl
 clear hA
 generalize rightI p l i=r at *
 generalize loopsL p l i=L at *
 generalize loopsE p l i=E at *
 go_enter Tryz.func11,Tryz.ntmps11
 go_upto_region 1 with (fail)
 have HV:=Lib.hid (var3_new w (.slice ap p.length cp) (.slice al l.length cl) (.slice ai i.length ci) 25 w.heap.size rfl)
 have HB:=Lib.hid (bl_one w (.cells #[.slice ap p.length cp,.slice al l.length cl,.slice ai i.length ci] 25))
 generalize w.alloc (.cells #[.slice ap p.length cp,.slice al l.length cl,.slice ai i.length ci] 25)=W1 at *
 obtain ⟨k0,k1,k2⟩:=HV.out.three
 go_wp2_with fail
 (with_reducible refine (HC.out _ HB.out).mono ?_);rintro e w2 ⟨rfl,hb2⟩
 replace HB:=Lib.hid (bl_trans HB.out hb2)
 replace HV:=Lib.hid (HV.out.below hb2)
 clear hb2 HC k0 k1 k2
 obtain ⟨k0,k1,k2⟩:=HV.out.three
 cases r
 ·obtain rfl:L=[]:=HL.out
  obtain rfl:E=2:=HE.out
  go_wp2_with fail
  go_ret2
  exact ⟨none,0,rfl,Nat.le_refl _,fun _ h=>absurd h (Nat.not_lt_zero _),fun _=>rfl,HB.out⟩
 ·have HL2:Hid (L=(ringsR (p.length:Int) l).1):=HL.out
  have HE2:Hid (E=(ringsR (p.length:Int) l).2.2):=HE.out
  clear HL HE
  go_wp2_with fail
  (with_reducible refine (HRi.out _ HB.out).mono ?_);rintro e w3 ⟨v,rfl,⟨ad,cap,rfl,hcap,hrow,hnil⟩,hb3⟩
  rw [← HL2.out] at hcap hrow ⊢
  rw [← HE2.out]
  have HB3:=Lib.hid (bl_trans HB.out hb3)
  have HR:=Lib.hid hrow
  have HCa:=Lib.hid hcap
  have HNi:=Lib.hid hnil
  clear hb3 HRi k0 k1 k2 hrow hcap hnil
  go_wp2_with fail
  go_ret2
  exact ⟨ad,cap,rfl,HCa.out,HR.out,HNi.out,HB3.out⟩
set_option maxHeartbeats 8000000 in
set_option maxRecDepth 100000 in
theorem inside10_l (p l i:List Pt) (a b:Int) (ap al ai:Option Addr) (cp cl ci:Nat) (w:World) (hA:Pol w ap al ai cp cl ci p l i) :
 Calls Tryz.prog 14 #[.agg #[.slice ap p.length cp,.slice al l.length cl,.slice ai i.length ci],.int .i64 a,.int .i64 b] w (Gives (.bool (insideF p l i a b)) w):=by
 have HC:=Lib.hid (fun W h=>right10_l p l i ap al ai cp cl ci W (hA.below h))
 obtain ⟨S,hS⟩:∃ S,l ++ i=S:=⟨_,rfl⟩
 have HG:=Lib.hid (fun W h=>vsegs_l p l i S hS ap al ai cp cl ci W (hA.below h))
 have HH:=Lib.hid (fun W h=>half10_l p l i ⟨a,b⟩ ap al ai cp cl ci W (hA.below h))
 have HLn:Hid (S.length ≤ 100000):=by unfold Hid;have:=hA.lenL;have:=hA.lenI;rw [← hS,List.length_append];omega
 have HIn:Hid (insideF p l i a b=(rightI p l i && twoB p a b && ((anyN (fun k=>decide (⟨a,b⟩=pget S k)) S.length || anyN (fun k=>decide (⟨b,a⟩=pget S k)) S.length) || (passB p S a.toNat b.toNat && midW p l ⟨a,b⟩)))):=by subst hS;rfl
 have HSi:Hid (rightI p l i=true → ∀ k,k < S.length → sgInB p.length (pget S k)=true):=fun h=>by
  unfold rightI at h
  have hc:=checkB_iff.1 (Bool.and_eq_true_iff.1 h).1
  subst hS
  exact fun k hk=>chk_seg hc hk
 have HPs:=Lib.hid (fun W (h:Below w.heap.size w W) ad cap a b ha hb hR hs hi=>passes_l p l i S a b ha hb ad cap ap al ai cp cl ci W (hA.below h) hR hs hi)
 have HCt:=Lib.hid (fun s ad cap W hR hs=>containsSeg_l S s ad cap W hR hs)
 clear hA hS
 have HTw:Hid (twoB p a b=(!(decide (min a b < 0)) && !(decide ((p.length:Int) ≤ max a b)) && !(decide (a=b)))):=rfl
 generalize midW p l ⟨a,b⟩=mw at *
 generalize insideF p l i a b=r at *
 generalize twoB p a b=tw at *
 generalize rightI p l i=rr at *
 obtain ⟨mn,hmn⟩:∃ m,min a b=m:=⟨_,rfl⟩
 obtain ⟨mx,hmx⟩:∃ m,max a b=m:=⟨_,rfl⟩
 have HMn:=Lib.hid hmn
 have HMx:=Lib.hid hmx
 rw [hmn,hmx] at HTw
 go_enter Tryz.func14,Tryz.ntmps14
 go_upto_region 1 with (fail)
 have HV:=Lib.hid (var3_new w (.slice ap p.length cp) (.slice al l.length cl) (.slice ai i.length ci) 25 w.heap.size rfl)
 have HB:=Lib.hid (bl_one w (.cells #[.slice ap p.length cp,.slice al l.length cl,.slice ai i.length ci] 25))
 generalize w.alloc (.cells #[.slice ap p.length cp,.slice al l.length cl,.slice ai i.length ci] 25)=W1 at *
 obtain ⟨k0,k1,k2⟩:=HV.out.three
 go_wp2_with fail
 (with_reducible refine (HC.out _ HB.out).mono ?_);rintro e w2 ⟨rfl,hb2⟩
 replace HB:=Lib.hid (bl_trans HB.out hb2)
 replace HV:=Lib.hid (HV.out.below hb2)
 clear hb2 HC k0 k1 k2
 obtain ⟨k0,k1,k2⟩:=HV.out.three
 have HNo:Hid (rr=false ∨ tw=false → r=false):=fun h=>by
  rw [HIn.out];rcases h with h | h <;> rw [h] <;> simp
 cases rr
 case false=>
  have HZ:=Lib.hid (HNo.out (.inl rfl))
  clear HNo HIn
  go_wp2_with fail
  go_ret
  exact ⟨by rw [HZ.out];rfl,HB.out⟩
 case true=>
 by_cases h1:mn < 0
 ·have e1:(mn < 0)=True:=eq_true h1
  have HZ:=Lib.hid (HNo.out (.inr (by rw [HTw.out,decide_eq_true h1];rfl)))
  clear HNo HIn h1
  go_wp2_with fail
  go_ret
  exact ⟨by rw [HZ.out];rfl,HB.out⟩
 have e1:(mn < 0)=False:=eq_false h1
 by_cases h2:(p.length:Int) ≤ mx
 ·have e2:((p.length:Int) ≤ mx)=True:=eq_true h2
  have HZ:=Lib.hid (HNo.out (.inr (by rw [HTw.out,decide_eq_true h2];simp)))
  clear HNo HIn h1 h2
  go_wp2_with fail
  go_ret
  exact ⟨by rw [HZ.out];rfl,HB.out⟩
 have e2:((p.length:Int) ≤ mx)=False:=eq_false h2
 by_cases h3:a=b
 ·have e3:(a=b)=True:=eq_true h3
  have e4:(a == b)=true:=beq_iff_eq.2 h3
  have HZ:=Lib.hid (HNo.out (.inr (by rw [HTw.out,decide_eq_true h3];simp)))
  clear HNo HIn h1 h2 h3
  go_wp2_with fail
  go_ret
  exact ⟨by rw [HZ.out];rfl,HB.out⟩
 have e3:(a=b)=False:=eq_false h3
 have e4:(a == b)=false:=beq_eq_false_iff_ne.2 h3
 obtain ⟨x,rfl⟩:=Int.eq_ofNat_of_zero_le (show 0 ≤ a by have:=HMn.out;omega)
 obtain ⟨y,rfl⟩:=Int.eq_ofNat_of_zero_le (show 0 ≤ b by have:=HMn.out;omega)
 have hx:x < p.length:=by have:=HMx.out;omega
 have hy:y < p.length:=by have:=HMx.out;omega
 have HTt:Hid (tw=true):=by unfold Hid;rw [HTw.out,decide_eq_false h1,decide_eq_false h2,decide_eq_false h3];rfl
 have HI2:Hid (r=((anyN (fun k=>decide ((⟨(x:Int),(y:Int)⟩:Pt)=pget S k)) S.length || anyN (fun k=>decide ((⟨(y:Int),(x:Int)⟩:Pt)=pget S k)) S.length) || (passB p S x y && mw))):=by
  unfold Hid;rw [HIn.out,HTt.out];rfl
 clear h1 h2 h3 HNo HIn HTw HTt
 go_wp2_with fail
 (with_reducible refine (HG.out _ HB.out).mono ?_);rintro e w3 ⟨ad,cap,rfl,hcap,hR,hn,hb3⟩
 have HR:=Lib.hid hR
 replace HB:=Lib.hid (bl_trans HB.out hb3)
 replace HV:=Lib.hid (HV.out.below hb3)
 clear hb3 HG k0 k1 k2 hR hcap hn
 have HC1:=Lib.hid (HCt.out ⟨(x:Int),(y:Int)⟩ ad cap w3 HR.out HLn.out)
 have HC2:=Lib.hid (fun W (h:Below w3.heap.size w3 W)=>HCt.out ⟨(y:Int),(x:Int)⟩ ad cap W (HR.out.below h) HLn.out)
 have HC3:=Lib.hid (fun W (h:Below w3.heap.size w3 W)=>HPs.out W (bl_trans HB.out h) ad cap x y hx hy (HR.out.below h) HLn.out (by first | exact HSi.out trivial | exact HSi.out rfl))
 clear HCt HPs
 generalize anyN (fun k=>decide ((⟨(x:Int),(y:Int)⟩:Pt)=pget S k)) S.length=r1 at *
 generalize anyN (fun k=>decide ((⟨(y:Int),(x:Int)⟩:Pt)=pget S k)) S.length=r2 at *
 generalize passB p S x y=r3 at *
 go_wp2_with fail
 (with_reducible refine HC1.out.mono ?_);rintro e w4 ⟨rfl,hb4⟩
 have HB4:=Lib.hid hb4
 clear hb4 HC1
 cases r1
 case true=>
  have HBz:=Lib.hid (bl_trans HB.out HB4.out)
  go_wp2_with fail
  go_ret
  exact ⟨by rw [HI2.out];rfl,HBz.out⟩
 case false=>
 go_wp2_with fail
 (with_reducible refine (HC2.out _ HB4.out).mono ?_);rintro e w5 ⟨rfl,hb5⟩
 replace HB4:=Lib.hid (bl_trans HB4.out hb5)
 clear hb5 HC2
 cases r2
 case true=>
  have HBz:=Lib.hid (bl_trans HB.out HB4.out)
  go_wp2_with fail
  go_ret
  exact ⟨by rw [HI2.out];rfl,HBz.out⟩
 case false=>
 obtain ⟨k0,k1,k2⟩:=(HV.out.below HB4.out).three
 go_wp2_with fail
 (with_reducible refine (HC3.out _ HB4.out).mono ?_);rintro e w6 ⟨rfl,hb6⟩
 replace HB4:=Lib.hid (bl_trans HB4.out hb6)
 clear hb6 HC3 k0 k1 k2
 obtain ⟨k0,k1,k2⟩:=(HV.out.below HB4.out).three
 cases r3
 case false=>
  have HBz:=Lib.hid (bl_trans HB.out HB4.out)
  go_wp2_with fail
  go_ret
  exact ⟨by rw [HI2.out];rfl,HBz.out⟩
 case true=>
 go_wp2_with fail
 (with_reducible refine (HH.out _ (bl_trans HB.out HB4.out)).mono ?_);rintro e w7 ⟨rfl,hb7⟩
 have HBz:=Lib.hid (bl_trans (bl_trans HB.out HB4.out) hb7)
 clear hb7 HH k0 k1 k2
 cases mw
 ·go_wp2_with fail
  go_ret
  exact ⟨by rw [HI2.out];rfl,HBz.out⟩
 ·go_wp2_with fail
  go_ret
  exact ⟨by rw [HI2.out];rfl,HBz.out⟩
end Go.Proofs.YtpjaefcmaiimlaaGreat
